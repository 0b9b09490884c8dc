package shape_test

import (
	"math"
	"testing"

	"drydock/api"
	"drydock/shape"
)

const top = math.MaxUint32

// all are the bounds of all words.
const all = complex(0, top)

type (
	bools = [api.Regs]bool
	words = [api.Regs]uint32
	ends  = [api.Regs]complex128
)

// registers are all numbers of registers.
var registers = [api.Regs]int{0, 1, 2, 3, 4, 5, 6, 7}

// strange are numbers that no register has.
func strange() []int {
	return []int{-1, -2, -8, 8, 9, 15, 16, 256, 1 << 32, 1<<32 + 1, 1 << 62, math.MinInt, math.MinInt + 1, math.MaxInt}
}

// subsets returns all sets of registers.
func subsets() []bools {
	l := make([]bools, 1<<api.Regs)
	for k := range l {
		for n := range l[k] {
			l[k][n] = k>>n&1 == 1
		}
	}
	return l
}

// shapeOf returns the shape in which the registers in set have the bounds r.
func shapeOf(set bools, r ends) api.Shape {
	s := api.Shape{Set: set}
	for n := range r {
		if set[n] {
			s.R[n] = r[n]
		}
	}
	return s
}

// spread are bounds that differ for each register, one of them All, one 0.
func spread() ends {
	return ends{3 + 5i, 10 + 10i, 0, all, complex(top, top), 7 + 1000i, complex(1<<31, 1<<31+1), 1i}
}

// wide are other ones, some of them within those of spread, around or beside.
func wide() ends {
	return ends{4 + 4i, 9 + 11i, 0, 2 + 3i, 0, 900 + 2000i, complex(0, top), 1 + 1i}
}

// wrongBounds returns what is not valid as bounds.
func wrongBounds() []complex128 {
	inf, nan := math.Inf(1), math.NaN()
	return []complex128{
		1, 2 + 1i, -1, -1i, 2i - 1, complex(top, 0), complex(top, top-1),
		complex(0.5, 2), complex(0, 2.5), complex(0, math.SmallestNonzeroFloat64), complex(-math.SmallestNonzeroFloat64, 0),
		complex(0, 1<<32), complex(1<<32, 1<<32), complex(0, 1<<53), complex(0, top+0.5),
		complex(0, inf), complex(-inf, inf), complex(inf, 0), complex(nan, 2), complex(0, nan), complex(nan, nan),
	}
}

// fine returns valid shapes.
func fine() []api.Shape {
	l := []api.Shape{{}}
	for _, set := range subsets() {
		l = append(l, shapeOf(set, spread()))
	}
	return l
}

// wrong returns shapes that are not valid: one register is not as it may be, in
// shapes with no, some and all other registers set.
func wrong() []api.Shape {
	var l []api.Shape
	for _, set := range []bools{{}, {1: true, 2: true}, {0: true, 4: true, 7: true}, {true, true, true, true, true, true, true, true}} {
		for n := range registers {
			s := shapeOf(set, spread())
			for _, b := range wrongBounds() {
				s.Set[n], s.R[n] = true, b
				l = append(l, s)
				s.Set[n] = false
				l = append(l, s)
			}
			for _, b := range []complex128{1i, 1 + 1i, 3 + 5i, all, complex(top, top)} {
				s.R[n] = b
				l = append(l, s)
			}
		}
	}
	return l
}

// P10.1: a shape is valid if what is set has valid bounds, and the rest has 0.
func TestMay(t *testing.T) {
	for _, s := range fine() {
		if !shape.May(s) {
			t.Errorf("May(%v) is false", s)
		}
	}
	for _, s := range wrong() {
		if shape.May(s) {
			t.Errorf("May(%v) is true", s)
		}
	}
}

// P10.1: 0 are the bounds of a set register that is 0, and of one that is not
// set; so is a zero below 0.
func TestZero(t *testing.T) {
	below := math.Copysign(0, -1)
	for _, z := range []complex128{0, complex(below, 0), complex(0, below), complex(below, below)} {
		for n := range registers {
			s := shapeOf(bools{3: true, 5: true}, spread())
			for _, set := range []bool{false, true} {
				s.Set[n], s.R[n] = set, z
				if !shape.May(s) {
					t.Errorf("May(%v) is false", s)
				}
				if b, ok := shape.Get(s, n); b != 0 || ok != set {
					t.Errorf("Get(%v, %d) is %v, %v; want 0, %v", s, n, b, ok, set)
				}
				if got := shape.Join(s, s); got != s {
					t.Errorf("Join of %v with itself is %v", s, got)
				}
				regs := words{5: 7}
				regs[n] = 0
				if !shape.Holds(s, s.Set, regs) {
					t.Errorf("Holds(%v, %v, %v) is false", s, s.Set, regs)
				}
			}
		}
	}
}

// P10.1: the registers from 1 on are set, as many as the arguments.
func TestNew(t *testing.T) {
	cases := []struct {
		args int
		set  bools
	}{
		{0, bools{}},
		{1, bools{1: true}},
		{2, bools{1: true, 2: true}},
		{3, bools{1: true, 2: true, 3: true}},
		{4, bools{1: true, 2: true, 3: true, 4: true}},
	}
	for _, c := range cases {
		s, ok := shape.New(c.args)
		if want := shapeOf(c.set, ends{1: all, 2: all, 3: all, 4: all}); s != want || !ok {
			t.Errorf("New(%d) is %v, %v; want %v, true", c.args, s, ok, want)
		}
		if !shape.May(s) {
			t.Errorf("New(%d) is not valid", c.args)
		}
	}
}

// P10.1, P1: no function has fewer than 0 arguments or more than 4.
func TestNewWithWrongArgs(t *testing.T) {
	for _, args := range append(strange(), 5, 6, 7) {
		if s, ok := shape.New(args); s != (api.Shape{}) || ok {
			t.Errorf("New(%d) is %v, %v", args, s, ok)
		}
	}
}

// P10.1: Get tells what is known of a register that is set, and of no other.
func TestGet(t *testing.T) {
	for _, set := range subsets() {
		s := shapeOf(set, spread())
		for n := range registers {
			want := complex128(0)
			if set[n] {
				want = spread()[n]
			}
			if b, ok := shape.Get(s, n); b != want || ok != set[n] {
				t.Errorf("Get(%v, %d) is %v, %v; want %v, %v", s, n, b, ok, want, set[n])
			}
		}
		for _, n := range strange() {
			if b, ok := shape.Get(s, n); b != 0 || ok {
				t.Errorf("Get(%v, %d) is %v, %v; want 0, false", s, n, b, ok)
			}
		}
	}
}

// P10.1: Put sets one register, set before or not, and changes no other.
func TestPut(t *testing.T) {
	for _, set := range subsets() {
		s := shapeOf(set, spread())
		for n := range registers {
			for _, b := range []complex128{0, 1i, 7 + 7i, 9 + 300i, complex(top-1, top), all} {
				want := s
				want.Set[n], want.R[n] = true, b
				if got := shape.Put(s, n, b); got != want {
					t.Errorf("Put(%v, %d, %v) is %v; want %v", s, n, b, got, want)
				}
			}
		}
	}
}

// P10.1: bounds that are not valid are All, and no register is put where there
// is none, whatever the bounds.
func TestPutWithWrongArguments(t *testing.T) {
	for _, set := range []bools{{}, {2: true, 5: true}, {true, true, true, true, true, true, true, true}} {
		s := shapeOf(set, spread())
		for _, b := range wrongBounds() {
			for n := range registers {
				want := s
				want.Set[n], want.R[n] = true, all
				if got := shape.Put(s, n, b); got != want {
					t.Errorf("Put(%v, %d, %v) is %v; want %v", s, n, b, got, want)
				}
			}
		}
		for _, n := range strange() {
			for _, b := range append(wrongBounds(), 0, 3+5i, all) {
				if got := shape.Put(s, n, b); got != s {
					t.Errorf("Put(%v, %d, %v) is %v; want the same shape", s, n, b, got)
				}
			}
		}
	}
}

// P10.2: register 0 is any word then, 1 to 5 are lost, 6 and 7 are kept.
func TestBack(t *testing.T) {
	for _, set := range subsets() {
		s := shapeOf(set, spread())
		want := shapeOf(bools{0: true, 6: set[6], 7: set[7]}, ends{0: all, 6: spread()[6], 7: spread()[7]})
		got := shape.Back(s)
		if got != want {
			t.Errorf("Back(%v) is %v; want %v", s, got, want)
		}
		if again := shape.Back(got); again != want {
			t.Errorf("Back of %v is %v", got, again)
		}
	}
}

// P10.1, P10.2, P10.3, P1: of a shape that is not valid nothing is known.
func TestWrongShapes(t *testing.T) {
	zero, every := api.Shape{}, bools{true, true, true, true, true, true, true, true}
	for _, s := range wrong() {
		for _, n := range append(strange(), registers[:]...) {
			if b, ok := shape.Get(s, n); b != 0 || ok {
				t.Errorf("Get(%v, %d) is %v, %v", s, n, b, ok)
			}
			if got := shape.Put(s, n, 3+5i); got != zero {
				t.Errorf("Put(%v, %d, 3+5i) is %v", s, n, got)
			}
		}
		for _, i := range operands() {
			if b, ok := shape.Word(s, i); b != 0 || ok {
				t.Errorf("Word(%v, %v) is %v, %v", s, i, b, ok)
			}
		}
		if got := shape.Back(s); got != zero {
			t.Errorf("Back(%v) is %v", s, got)
		}
		for _, other := range []api.Shape{s, {}, shapeOf(every, spread()), shapeOf(bools{2: true}, wide())} {
			if got := shape.Join(s, other); got != zero {
				t.Errorf("Join(%v, %v) is %v", s, other, got)
			}
			if got := shape.Join(other, s); got != zero {
				t.Errorf("Join(%v, %v) is %v", other, s, got)
			}
		}
		for _, set := range []bools{{}, s.Set, every} {
			for _, regs := range []words{{}, {3, 10, 0, 5, top, 7, 1 << 31, 1}} {
				if shape.Holds(s, set, regs) {
					t.Errorf("Holds(%v, %v, %v)", s, set, regs)
				}
			}
		}
	}
}
