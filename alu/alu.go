// Package alu is layer 1: the operations and comparisons on words.
// See shared/doc/01-alu.md.
package alu

import "drydock/api"

const wordBits = 32

// operation holds in a field the function that computes it.
type operation struct {
	apply func(a, b uint32) uint32
}

// Do returns the result of operation op on a and b, and whether op is one.
func Do(op int, a, b uint32) (uint32, bool) {
	if op < 0 || op >= api.Alus {
		return 0, false
	}
	return operations()[op].apply(a, b), true
}

// Holds reports whether comparison cond holds for a and b, and whether cond is one.
func Holds(cond int, a, b uint32) (bool, bool) {
	switch cond {
	case api.Always:
		return true, true
	case api.Eq:
		return a == b, true
	case api.Ne:
		return a != b, true
	case api.Lt:
		return a < b, true
	case api.Ge:
		return a >= b, true
	}
	return false, false
}

func operations() [api.Alus]operation {
	return [api.Alus]operation{
		api.Mov: {apply: move},
		api.Add: {apply: add},
		api.Sub: {apply: subtract},
		api.Mul: {apply: multiply},
		api.Div: {apply: divide},
		api.Mod: {apply: remainder},
		api.And: {apply: and},
		api.Or:  {apply: or},
		api.Xor: {apply: exclusiveOr},
		api.Shl: {apply: shiftLeft},
		api.Shr: {apply: shiftRight},
	}
}

func move(_, b uint32) uint32 { return b }

func add(a, b uint32) uint32 { return a + b }

func subtract(a, b uint32) uint32 { return a - b }

func multiply(a, b uint32) uint32 { return a * b }

// divide answers 0 for a division by 0, so that no word makes an operation fail.
func divide(a, b uint32) uint32 {
	if b == 0 {
		return 0
	}
	return a / b
}

// remainder answers the dividend for a division by 0: with the quotient 0,
// quotient times divisor plus remainder is the dividend there as well.
func remainder(a, b uint32) uint32 {
	if b == 0 {
		return a
	}
	return a % b
}

func and(a, b uint32) uint32 { return a & b }

func or(a, b uint32) uint32 { return a | b }

func exclusiveOr(a, b uint32) uint32 { return a ^ b }

// Go shifts out every bit when the count reaches the width, so the shifts
// reduce it first.
func shiftLeft(a, b uint32) uint32 { return a << (b % wordBits) }

func shiftRight(a, b uint32) uint32 { return a >> (b % wordBits) }
