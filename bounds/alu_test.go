package bounds_test

import (
	"math"
	"testing"

	"drydock/alu"
	"drydock/api"
	"drydock/bounds"
)

// P9.2: every operation with chosen bounds.
func TestAlu(t *testing.T) {
	cases := []struct {
		name       string
		op         int
		a, b, want complex128
	}{
		{"mov", api.Mov, 1 + 3i, 4 + 5i, 4 + 5i},
		{"mov of all", api.Mov, 1 + 3i, all, all},

		{"add", api.Add, 1 + 3i, 10 + 20i, 11 + 23i},
		{"add up to the top word", api.Add, complex(1, top-5), 5i, complex(1, top)},
		{"add beyond the top word", api.Add, complex(1, top-5), 6i, all},
		{"add of top words", api.Add, complex(top, top), complex(top, top), all},

		{"sub", api.Sub, 5 + 9i, 1 + 5i, 8i},
		{"sub to one word", api.Sub, 5 + 5i, 5 + 5i, 0},
		{"sub below 0", api.Sub, 5 + 9i, 1 + 6i, all},
		{"sub of words from the top word", api.Sub, complex(top, top), complex(5, top-1), complex(1, top-5)},

		{"mul", api.Mul, 2 + 3i, 4 + 5i, 8 + 15i},
		{"mul by 0", api.Mul, all, 0, 0},
		{"mul up to the top word", api.Mul, 3 + 65535i, 2 + 65537i, complex(6, top)},
		{"mul beyond the top word", api.Mul, 65536i, 65536i, all},
		{"mul of top words", api.Mul, complex(top, top), complex(top, top), all},

		{"div", api.Div, 10 + 20i, 2 + 5i, 2 + 10i},
		{"div rounds down", api.Div, 10 + 20i, 3 + 7i, 1 + 6i},
		{"div rounds down to 0", api.Div, 5 + 6i, 7 + 9i, 0},
		{"div by 1 and more", api.Div, complex(top-1, top), complex(1, top), complex(0, top)},
		{"div by 0 and more", api.Div, 10 + 20i, 5i, 20i},
		{"div by 0", api.Div, 10 + 20i, 0, 20i},

		{"mod by greater words", api.Mod, 3 + 4i, 5 + 9i, 3 + 4i},
		{"mod by a word that is the highest one too", api.Mod, 3 + 5i, 5 + 9i, 5i},
		{"mod", api.Mod, 3 + 40i, 5 + 9i, 8i},
		{"mod by 1", api.Mod, 3 + 40i, 1 + 1i, 0},
		{"mod of lower words", api.Mod, 3 + 6i, 5 + 9i, 6i},
		{"mod by 0 and more", api.Mod, 3 + 40i, 9i, 40i},
		{"mod by 0", api.Mod, 3 + 40i, 0, 40i},

		{"and", api.And, 9 + 12i, 3 + 5i, 5i},
		{"and with all", api.And, 9 + 12i, all, 12i},
		{"or", api.Or, 9 + 12i, 3 + 5i, 9 + 15i},
		{"or with the greater one second", api.Or, 3 + 5i, 9 + 12i, 9 + 15i},
		{"or at a power of two", api.Or, 16i, 3 + 3i, 3 + 31i},
		{"or below a power of two", api.Or, 15i, 3 + 3i, 3 + 15i},
		{"or of zeros", api.Or, 0, 0, 0},
		{"or with the top bit", api.Or, 1 + 1<<31*1i, 2 + 2i, complex(2, top)},
		{"xor", api.Xor, 9 + 16i, 3 + 5i, 31i},
		{"xor below a power of two", api.Xor, 9 + 15i, 3 + 5i, 15i},
		{"xor of zeros", api.Xor, 0, 0, 0},
		{"xor of a word with itself", api.Xor, 4 + 4i, 4 + 4i, 7i},
		{"xor with the top word", api.Xor, complex(top, top), 0, all},

		{"shl", api.Shl, 1 + 3i, 2 + 2i, 4 + 12i},
		{"shl by more than 31", api.Shl, 1 + 3i, 34 + 34i, 4 + 12i},
		{"shl by 32", api.Shl, 1 + 3i, 32 + 32i, 1 + 3i},
		{"shl by the top word", api.Shl, 1i, complex(top, top), 1 << 31 * 1i},
		{"shl beyond the top word", api.Shl, 1 + 2i, 31 + 31i, all},
		{"shl by two words", api.Shl, 1 + 3i, 1 + 2i, all},
		{"shl by two words that are the same modulo 32", api.Shl, 1 + 3i, 1 + 33i, all},
		{"shr", api.Shr, 9 + 40i, 3 + 3i, 1 + 5i},
		{"shr by more than 31", api.Shr, 9 + 40i, 35 + 35i, 1 + 5i},
		{"shr by 31", api.Shr, all, 31 + 31i, 1i},
		{"shr by 32", api.Shr, 9 + 40i, 32 + 32i, 9 + 40i},
		{"shr by two words", api.Shr, 9 + 40i, 3i, 40i},
		{"shr by two words without 0", api.Shr, 9 + 40i, 1 + 2i, 40i},
	}
	for _, c := range cases {
		if got := bounds.Alu(c.op, c.a, c.b); got != c.want {
			t.Errorf("%s: Alu(%d, %v, %v) is %v; want %v", c.name, c.op, c.a, c.b, got, c.want)
		}
	}
}

// modelAlu computes by the chapter, with integers of 64 bits; a result that is
// not from one word to another one is All.
func modelAlu(op int, x, y interval) complex128 {
	low, high := modelEnds(op, uint64(x.low), uint64(x.high), uint64(y.low), uint64(y.high))
	if high >= 1<<32 {
		return all
	}
	return complex(float64(low), float64(high))
}

// modelEnds returns 2^32 or more as the second word where the chapter says All.
func modelEnds(op int, a, b, c, d uint64) (uint64, uint64) {
	const beyond = 1 << 32
	switch op {
	case api.Mov:
		return c, d
	case api.Add:
		return a + c, b + d
	case api.Sub:
		if a < d {
			return 0, beyond
		}
		return a - d, b - c
	case api.Mul:
		return a * c, b * d
	case api.Div:
		if c == 0 {
			return 0, b
		}
		return a / d, b / c
	case api.Mod:
		switch {
		case b < c:
			return a, b
		case c == 0:
			return 0, b
		case b < d-1:
			return 0, b
		}
		return 0, d - 1
	case api.Shl:
		if c != d {
			return 0, beyond
		}
		return a << (c % 32), b << (c % 32)
	case api.Shr:
		if c != d {
			return 0, b
		}
		return a >> (c % 32), b >> (c % 32)
	}
	return modelBits(op, a, b, c, d)
}

func modelBits(op int, a, b, c, d uint64) (uint64, uint64) {
	power := uint64(1)
	for power <= b || power <= d {
		power *= 2
	}
	switch {
	case op == api.And && b < d:
		return 0, b
	case op == api.And:
		return 0, d
	case op == api.Xor:
		return 0, power - 1
	case a > c:
		return a, power - 1
	}
	return c, power - 1
}

// P9.2: every operation with every pair of bounds between edge words.
func TestAluAgainstTheModel(t *testing.T) {
	l := intervals(edges())
	for op := range api.Alus {
		for _, x := range l {
			for _, y := range l {
				if got, want := bounds.Alu(op, x.of(), y.of()), modelAlu(op, x, y); got != want {
					t.Fatalf("Alu(%d, %v, %v) is %v; want %v", op, x.of(), y.of(), got, want)
				}
			}
		}
	}
}

// P9.2, P1: an op outside the range yields All, whatever the bounds.
func TestAluOutsideTheRange(t *testing.T) {
	for _, op := range []int{-1, -2, -api.Alus, math.MinInt, math.MinInt32, api.Alus, api.Alus + 1, 255, 256, 1 << 32, 1<<32 + 1, math.MaxInt32, math.MaxInt} {
		for _, a := range append(wrong(), 0, 5+5i, all) {
			for _, b := range append(wrong(), 0, 5+5i, all) {
				if got := bounds.Alu(op, a, b); got != all {
					t.Fatalf("Alu(%d, %v, %v) is %v; want %v", op, a, b, got, all)
				}
			}
		}
	}
}

// P9.2, P1: bounds that are not valid count as All, on either side and on both.
func TestAluOfWrongBounds(t *testing.T) {
	for op := range api.Alus {
		for _, w := range wrong() {
			if got, want := bounds.Alu(op, w, w), bounds.Alu(op, all, all); got != want {
				t.Errorf("Alu(%d, %v, %v) is %v; want %v", op, w, w, got, want)
			}
			for _, i := range intervals([]uint32{0, 1, 5, 33, top}) {
				b := i.of()
				if got, want := bounds.Alu(op, w, b), bounds.Alu(op, all, b); got != want {
					t.Errorf("Alu(%d, %v, %v) is %v; want %v", op, w, b, got, want)
				}
				if got, want := bounds.Alu(op, b, w), bounds.Alu(op, b, all); got != want {
					t.Errorf("Alu(%d, %v, %v) is %v; want %v", op, b, w, got, want)
				}
			}
		}
	}
}

// P9.2: a zero below 0 counts as 0.
func TestAluOfZeros(t *testing.T) {
	for op := range api.Alus {
		for _, z := range zeros() {
			for _, i := range intervals([]uint32{0, 1, 5, 33, top}) {
				b := i.of()
				if got, want := bounds.Alu(op, z[0], b), bounds.Alu(op, z[1], b); got != want {
					t.Errorf("Alu(%d, %v, %v) is %v; want %v", op, z[0], b, got, want)
				}
				if got, want := bounds.Alu(op, b, z[0]), bounds.Alu(op, b, z[1]); got != want {
					t.Errorf("Alu(%d, %v, %v) is %v; want %v", op, b, z[0], got, want)
				}
			}
		}
	}
}

// checkResults checks that the result of op on every two of the words lies
// within Alu of all bounds between words that contain them.
func checkResults(t *testing.T, op int, words []uint32) {
	t.Helper()
	results := make([][]uint32, len(words))
	for k, v := range words {
		for _, w := range words {
			n, ok := alu.Do(op, v, w)
			if !ok {
				t.Fatalf("there is no operation %d", op)
			}
			results[k] = append(results[k], n)
		}
	}
	for _, x := range intervals(words) {
		for _, y := range intervals(words) {
			low, high, ok := bounds.Ends(bounds.Alu(op, x.of(), y.of()))
			if !ok {
				t.Fatalf("Alu(%d, %v, %v) is not valid", op, x.of(), y.of())
			}
			for k, v := range words {
				for m, w := range words {
					inside := x.low <= v && v <= x.high && y.low <= w && w <= y.high
					if n := results[k][m]; inside && (n < low || n > high) {
						t.Fatalf("%d with %d and %d is %d; Alu(%d, %v, %v) is from %d to %d", op, v, w, n, op, x.of(), y.of(), low, high)
					}
				}
			}
		}
	}
}

// counted returns as many words, from one on.
func counted(from uint32, count int) []uint32 {
	var l []uint32
	for k := range count {
		l = append(l, from+uint32(k))
	}
	return l
}

// P9.4: results lie within Alu, for all bounds of small words and of the
// greatest ones, and for bounds between chosen words.
func TestResultsLieWithinAlu(t *testing.T) {
	chosen := []uint32{0, 1, 2, 3, 5, 8, 31, 32, 33, 255, 65535, 65536, 1<<31 - 1, 1 << 31, 0xdeadbeef, top - 1, top}
	for op := range api.Alus {
		checkResults(t, op, counted(0, 14))
		checkResults(t, op, counted(26, 14))
		checkResults(t, op, counted(top-11, 12))
		checkResults(t, op, chosen)
	}
}
