package bounds

import (
	"math/bits"

	"drydock/alu"
	"drydock/api"
)

// rule computes bounds from the valid bounds a and b. What it returns is not
// valid if an end is no word any more, or if no word is left.
type rule func(a, b complex128) complex128

func aluRules() [api.Alus]rule {
	return [api.Alus]rule{
		api.Mov: move,
		api.Add: add,
		api.Sub: subtract,
		api.Mul: multiply,
		api.Div: divide,
		api.Mod: remainder,
		api.And: and,
		api.Or:  or,
		api.Xor: exclusiveOr,
		api.Shl: shiftLeft,
		api.Shr: shiftRight,
	}
}

func cutRules() [api.Conds]rule {
	return [api.Conds]rule{
		api.Always: keep,
		api.Eq:     equal,
		api.Ne:     unequal,
		api.Lt:     less,
		api.Ge:     notLess,
	}
}

func move(_, b complex128) complex128 { return b }

func add(a, b complex128) complex128 { return a + b }

// subtract takes the highest word off the lowest one, and the lowest off the
// highest.
func subtract(a, b complex128) complex128 {
	return a - complex(imag(b), real(b))
}

// multiply rounds only products that are far greater than any word.
func multiply(a, b complex128) complex128 {
	return complex(real(a)*real(b), imag(a)*imag(b))
}

func divide(a, b complex128) complex128 {
	if real(b) == 0 {
		return upTo(imag(a))
	}
	return complex(word(api.Div, real(a), imag(b)), word(api.Div, imag(a), real(b)))
}

func remainder(a, b complex128) complex128 {
	switch {
	case imag(a) < real(b):
		return a
	case real(b) != 0:
		return upTo(min(imag(a), imag(b)-1))
	}
	return upTo(imag(a)) // the remainder of a division by 0 is the dividend
}

func and(a, b complex128) complex128 { return upTo(min(imag(a), imag(b))) }

func or(a, b complex128) complex128 {
	return complex(max(real(a), real(b)), bitsOf(a, b))
}

func exclusiveOr(a, b complex128) complex128 { return upTo(bitsOf(a, b)) }

func shiftLeft(a, b complex128) complex128 {
	if !isSingle(b) {
		return all()
	}
	return multiply(a, power(b))
}

func shiftRight(a, b complex128) complex128 {
	if !isSingle(b) {
		return upTo(imag(a))
	}
	return divide(a, power(b))
}

func keep(a, _ complex128) complex128 { return a }

func equal(a, b complex128) complex128 {
	return complex(max(real(a), real(b)), min(imag(a), imag(b)))
}

// unequal takes an end off a: a word between the ends cannot be left out.
func unequal(a, b complex128) complex128 {
	switch {
	case !isSingle(b):
		return a
	case real(b) == real(a):
		return a + 1
	case real(b) == imag(a):
		return a - 1i
	}
	return a
}

func less(a, b complex128) complex128 {
	return complex(real(a), min(imag(a), imag(b)-1))
}

func notLess(a, b complex128) complex128 {
	return complex(max(real(a), real(b)), imag(a))
}

// upTo returns the bounds from 0 to high.
func upTo(high float64) complex128 { return complex(0, high) }

func isSingle(b complex128) bool { return real(b) == imag(b) }

// power returns the single word by which a shift by the single word of b
// multiplies or divides.
func power(b complex128) complex128 {
	p := word(api.Shl, 1, real(b))
	return complex(p, p)
}

// bitsOf returns the word in which all bits are set that a word of a or b may
// have.
func bitsOf(a, b complex128) float64 {
	highest := uint32(max(imag(a), imag(b)))
	return float64(uint64(1)<<bits.Len32(highest) - 1)
}

// word returns the result of operation op, which exists, on the words x and y.
func word(op int, x, y float64) float64 {
	w, _ := alu.Do(op, uint32(x), uint32(y))
	return float64(w)
}
