package alu_test

import (
	"math"
	"testing"

	"drydock/alu"
	"drydock/api"
)

const top = math.MaxUint32

// edges are words near the ends of the range, near the sign bit and near the
// width of a word, and some ordinary ones.
func edges() []uint32 {
	return []uint32{
		0, 1, 2, 3, 5, 7, 10, 31, 32, 33, 63, 64, 65, 1000, 65535, 65536, 65537,
		0x12345678, 0x55555555, 1<<31 - 1, 1 << 31, 1<<31 + 1, 0xaaaaaaaa, 0xdeadbeef, top - 1, top,
	}
}

// outside are numbers that neither op nor cond may be, given how many there are.
func outside(count int) []int {
	return []int{
		-1, -2, -count, math.MinInt32, math.MinInt, math.MinInt + 1,
		count, count + 1, 255, 256, math.MaxInt32, 1 << 32, 1<<32 + 1, math.MaxInt,
	}
}

func mustDo(t *testing.T, op int, a, b uint32) uint32 {
	t.Helper()
	n, ok := alu.Do(op, a, b)
	if !ok {
		t.Fatalf("Do(%d, %d, %d) refused the operation", op, a, b)
	}
	return n
}

func mustHold(t *testing.T, cond int, a, b uint32) bool {
	t.Helper()
	is, ok := alu.Holds(cond, a, b)
	if !ok {
		t.Fatalf("Holds(%d, %d, %d) refused the comparison", cond, a, b)
	}
	return is
}

// P1.1: the constants are the numbers 0 to 10 that the chapter speaks of.
func TestOperationNumbers(t *testing.T) {
	ops := []int{
		api.Mov, api.Add, api.Sub, api.Mul, api.Div, api.Mod, api.And, api.Or, api.Xor, api.Shl, api.Shr,
	}
	for i, op := range ops {
		if op != i {
			t.Errorf("operation %d has the number %d", i, op)
		}
	}
	if api.Alus != len(ops) {
		t.Errorf("Alus is %d", api.Alus)
	}
}

// P1.1: every operation with chosen words.
func TestDo(t *testing.T) {
	cases := []struct {
		name       string
		op         int
		a, b, want uint32
	}{
		{"mov", api.Mov, 7, 9, 9},
		{"mov of 0", api.Mov, 7, 0, 0},
		{"mov of the top word", api.Mov, 0, top, top},

		{"add", api.Add, 2, 3, 5},
		{"add wraps to 0", api.Add, top, 1, 0},
		{"add wraps", api.Add, top, top, top - 1},
		{"add over the sign bit", api.Add, 1<<31 - 1, 1, 1 << 31},

		{"sub", api.Sub, 9, 4, 5},
		{"sub to 0", api.Sub, 9, 9, 0},
		{"sub below 0", api.Sub, 1, 2, 4294967295},
		{"sub of the top word", api.Sub, 0, top, 1},

		{"mul", api.Mul, 6, 7, 42},
		{"mul by 0", api.Mul, top, 0, 0},
		{"mul wraps to 0", api.Mul, 65536, 65536, 0},
		{"mul wraps", api.Mul, 65537, 65537, 131073},
		{"mul of the top words", api.Mul, top, top, 1},

		{"div", api.Div, 42, 6, 7},
		{"div rounds down", api.Div, 7, 2, 3},
		{"div rounds down just below", api.Div, 99, 100, 0},
		{"div is unsigned", api.Div, top, 2, 1<<31 - 1},
		{"div of the sign bit by the top word", api.Div, 1 << 31, top, 0},
		{"div by 0", api.Div, 7, 0, 0},
		{"div of the top word by 0", api.Div, top, 0, 0},
		{"div of 0 by 0", api.Div, 0, 0, 0},

		{"mod", api.Mod, 7, 4, 3},
		{"mod without a remainder", api.Mod, 42, 6, 0},
		{"mod by a greater word", api.Mod, 7, 9, 7},
		{"mod is unsigned", api.Mod, top, 10, 5},
		{"mod by 0", api.Mod, 7, 0, 7},
		{"mod of the top word by 0", api.Mod, top, 0, top},
		{"mod of 0 by 0", api.Mod, 0, 0, 0},

		{"and", api.And, 12, 10, 8},
		{"and of all bits", api.And, top, 0xdeadbeef, 0xdeadbeef},
		{"or", api.Or, 12, 10, 14},
		{"or of halves", api.Or, 0xaaaaaaaa, 0x55555555, top},
		{"xor", api.Xor, 12, 10, 6},
		{"xor with itself", api.Xor, 0xdeadbeef, 0xdeadbeef, 0},

		{"shl", api.Shl, 3, 4, 48},
		{"shl by 0", api.Shl, 3, 0, 3},
		{"shl by 31", api.Shl, 3, 31, 1 << 31},
		{"shl by 32", api.Shl, 3, 32, 3},
		{"shl by 33", api.Shl, 1, 33, 2},
		{"shl by 64", api.Shl, 5, 64, 5},
		{"shl by the top word", api.Shl, 1, top, 1 << 31},

		{"shr", api.Shr, 48, 4, 3},
		{"shr by 0", api.Shr, 3, 0, 3},
		{"shr by 31", api.Shr, 1 << 31, 31, 1},
		{"shr fills with 0", api.Shr, top, 1, 1<<31 - 1},
		{"shr by 32", api.Shr, 5, 32, 5},
		{"shr by 33", api.Shr, 4, 33, 2},
		{"shr by 64", api.Shr, 5, 64, 5},
		{"shr by the top word", api.Shr, top, top, 1},
	}
	for _, c := range cases {
		if n, ok := alu.Do(c.op, c.a, c.b); n != c.want || !ok {
			t.Errorf("%s: Do(%d, %d, %d) is %d, %v; want %d, true", c.name, c.op, c.a, c.b, n, ok, c.want)
		}
	}
}

// wideResult computes an operation with 64 bits, without the program's own
// arithmetic of 32 bits, so that every reduction is written out.
func wideResult(op int, a, b uint64) uint64 {
	switch op {
	case api.Mov:
		return b
	case api.Add:
		return (a + b) % (1 << 32)
	case api.Sub:
		return (a + 1<<32 - b) % (1 << 32)
	case api.Mul:
		return a * b % (1 << 32)
	case api.Div:
		if b == 0 {
			return 0
		}
		return a / b
	case api.Mod:
		if b == 0 {
			return a
		}
		return a % b
	case api.Shl:
		return (a << (b % 32)) % (1 << 32)
	case api.Shr:
		return a >> (b % 32)
	}
	return bitwise(op, a, b)
}

func bitwise(op int, a, b uint64) uint64 {
	var n uint64
	for bit := range 32 {
		both := (a>>bit)&1 + (b>>bit)&1
		if op == api.And && both == 2 || op == api.Or && both > 0 || op == api.Xor && both == 1 {
			n += 1 << bit
		}
	}
	return n
}

// P1.1: every operation with every pair of edge words.
func TestDoAgainstWideArithmetic(t *testing.T) {
	for op := range api.Alus {
		for _, a := range edges() {
			for _, b := range edges() {
				want := uint32(wideResult(op, uint64(a), uint64(b)))
				if n := mustDo(t, op, a, b); n != want {
					t.Errorf("Do(%d, %d, %d) is %d; want %d", op, a, b, n, want)
				}
			}
		}
	}
}

// P1.1: a shift by any count is the shift by that count modulo 32.
func TestShiftsTakeTheCountModulo32(t *testing.T) {
	for _, op := range []int{api.Shl, api.Shr} {
		for _, a := range edges() {
			for b := range uint32(32) {
				want := mustDo(t, op, a, b)
				for _, more := range []uint32{32, 64, 1024, 1 << 31, top - 31} {
					if n := mustDo(t, op, a, b+more); n != want {
						t.Errorf("Do(%d, %d, %d) is %d; want %d", op, a, b+more, n, want)
					}
				}
			}
		}
	}
}

// P1.1, P1: an op outside the range yields 0 and false, whatever the words.
func TestDoOutsideTheRange(t *testing.T) {
	for _, op := range outside(api.Alus) {
		for _, a := range edges() {
			for _, b := range edges() {
				if n, ok := alu.Do(op, a, b); n != 0 || ok {
					t.Fatalf("Do(%d, %d, %d) is %d, %v; want 0, false", op, a, b, n, ok)
				}
			}
		}
	}
}

// P1.2: the constants are the numbers 0 to 4 that the chapter speaks of.
func TestComparisonNumbers(t *testing.T) {
	conds := []int{api.Always, api.Eq, api.Ne, api.Lt, api.Ge}
	for i, cond := range conds {
		if cond != i {
			t.Errorf("comparison %d has the number %d", i, cond)
		}
	}
	if api.Conds != len(conds) {
		t.Errorf("Conds is %d", api.Conds)
	}
}

// P1.2: every comparison with chosen words.
func TestHolds(t *testing.T) {
	cases := []struct {
		name string
		cond int
		a, b uint32
		want bool
	}{
		{"always, less", api.Always, 1, 2, true},
		{"always, equal", api.Always, 2, 2, true},
		{"always, greater", api.Always, 3, 2, true},
		{"always, zeros", api.Always, 0, 0, true},

		{"eq, equal", api.Eq, 3, 3, true},
		{"eq, less", api.Eq, 3, 4, false},
		{"eq, greater", api.Eq, 4, 3, false},
		{"eq, only the top bit differs", api.Eq, 3, 1<<31 + 3, false},

		{"ne, equal", api.Ne, 3, 3, false},
		{"ne, less", api.Ne, 3, 4, true},
		{"ne, greater", api.Ne, 4, 3, true},
		{"ne, only the top bit differs", api.Ne, 3, 1<<31 + 3, true},

		{"lt, less", api.Lt, 2, 3, true},
		{"lt, equal", api.Lt, 3, 3, false},
		{"lt, greater", api.Lt, 4, 3, false},
		{"lt is unsigned", api.Lt, 3, 1 << 31, true},
		{"lt is unsigned, the other way", api.Lt, top, 0, false},

		{"ge, less", api.Ge, 2, 3, false},
		{"ge, equal", api.Ge, 3, 3, true},
		{"ge, greater", api.Ge, 4, 3, true},
		{"ge is unsigned", api.Ge, 3, 1 << 31, false},
		{"ge is unsigned, the other way", api.Ge, top, 0, true},
	}
	for _, c := range cases {
		if is, ok := alu.Holds(c.cond, c.a, c.b); is != c.want || !ok {
			t.Errorf("%s: Holds(%d, %d, %d) is %v, %v; want %v, true", c.name, c.cond, c.a, c.b, is, ok, c.want)
		}
	}
}

// P1.2: every comparison with every pair of edge words, by their difference
// as signed 64-bit numbers.
func TestHoldsAgainstWideDifference(t *testing.T) {
	for _, a := range edges() {
		for _, b := range edges() {
			diff := int64(a) - int64(b)
			want := [api.Conds]bool{
				api.Always: true, api.Eq: diff == 0, api.Ne: diff != 0, api.Lt: diff < 0, api.Ge: diff >= 0,
			}
			for cond := range api.Conds {
				if is := mustHold(t, cond, a, b); is != want[cond] {
					t.Errorf("Holds(%d, %d, %d) is %v", cond, a, b, is)
				}
			}
		}
	}
}

// P1.2, P1: a cond outside the range yields false and false, whatever the words.
func TestHoldsOutsideTheRange(t *testing.T) {
	for _, cond := range outside(api.Conds) {
		for _, a := range edges() {
			for _, b := range edges() {
				if is, ok := alu.Holds(cond, a, b); is || ok {
					t.Fatalf("Holds(%d, %d, %d) is %v, %v; want false, false", cond, a, b, is, ok)
				}
			}
		}
	}
}

// P1.3: subtraction reverses addition.
func TestSubtractionReversesAddition(t *testing.T) {
	for _, a := range edges() {
		for _, b := range edges() {
			if n := mustDo(t, api.Sub, mustDo(t, api.Add, a, b), b); n != a {
				t.Errorf("%d plus %d minus %d is %d", a, b, b, n)
			}
			if n := mustDo(t, api.Add, mustDo(t, api.Sub, a, b), b); n != a {
				t.Errorf("%d minus %d plus %d is %d", a, b, b, n)
			}
		}
	}
}

// P1.3: quotient times divisor plus remainder is the dividend, also for 0.
func TestDivisionAddsUp(t *testing.T) {
	for _, a := range edges() {
		for _, b := range edges() {
			quotient, rest := mustDo(t, api.Div, a, b), mustDo(t, api.Mod, a, b)
			product := mustDo(t, api.Mul, quotient, b)
			if n := mustDo(t, api.Add, product, rest); n != a {
				t.Errorf("%d by %d: %d and %d left, which makes %d", a, b, quotient, rest, n)
			}
			if b != 0 && rest >= b {
				t.Errorf("%d by %d leaves %d", a, b, rest)
			}
		}
	}
}

// P1.3: exactly one of Eq and Ne, and exactly one of Lt and Ge holds.
func TestComparisonsExcludeEachOther(t *testing.T) {
	for _, a := range edges() {
		for _, b := range edges() {
			if mustHold(t, api.Eq, a, b) == mustHold(t, api.Ne, a, b) {
				t.Errorf("Eq and Ne agree on %d and %d", a, b)
			}
			if mustHold(t, api.Lt, a, b) == mustHold(t, api.Ge, a, b) {
				t.Errorf("Lt and Ge agree on %d and %d", a, b)
			}
		}
	}
}

// R5: the same arguments yield the same results, whatever was asked between.
func TestResultsDependOnTheArgumentsOnly(t *testing.T) {
	for op := range api.Alus {
		first := mustDo(t, op, 0xdeadbeef, 7)
		for other := range api.Alus {
			mustDo(t, other, 1, 0)
		}
		if again := mustDo(t, op, 0xdeadbeef, 7); again != first {
			t.Errorf("Do(%d) is %d, then %d", op, first, again)
		}
	}
}
