package shape_test

import (
	"testing"

	"drydock/api"
	"drydock/shape"
)

// P10.3: what is set in both is joined, what is set in one or none is not set.
func TestJoin(t *testing.T) {
	s := shapeOf(bools{0: true, 1: true, 2: true, 4: true, 6: true}, ends{3 + 5i, 7 + 7i, 0, 0, 2 + 9i, 0, 8 + 9i})
	u := shapeOf(bools{0: true, 2: true, 3: true, 4: true, 6: true, 7: true}, ends{9 + 9i, 0, 4 + 5i, all, 3 + 4i, 0, 1 + 2i, 6 + 6i})
	want := shapeOf(bools{0: true, 2: true, 4: true, 6: true}, ends{3 + 9i, 0, 0 + 5i, 0, 2 + 9i, 0, 1 + 9i})
	for _, pair := range [][2]api.Shape{{s, u}, {u, s}} {
		if got := shape.Join(pair[0], pair[1]); got != want {
			t.Errorf("Join(%v, %v) is %v; want %v", pair[0], pair[1], got, want)
		}
	}
}

// P10.3: the same for all sets of registers.
func TestJoinOfAllSets(t *testing.T) {
	joined := ends{3 + 5i, 9 + 11i, 0, all, all, 7 + 2000i, all, 1i}
	for _, a := range subsets() {
		for _, b := range subsets() {
			var both bools
			for n := range both {
				both[n] = a[n] && b[n]
			}
			got := shape.Join(shapeOf(a, spread()), shapeOf(b, wide()))
			if want := shapeOf(both, joined); got != want {
				t.Fatalf("Join with %v and %v set is %v; want %v", a, b, got, want)
			}
		}
	}
}

// P10.4: what is joined with itself stays.
func TestJoinWithItself(t *testing.T) {
	for _, s := range fine() {
		if got := shape.Join(s, s); got != s {
			t.Errorf("Join of %v with itself is %v", s, got)
		}
	}
}

// P10.3: each register that is set in the shape is set, and within its bounds.
func TestHolds(t *testing.T) {
	s := shapeOf(bools{0: true, 3: true, 7: true}, ends{3 + 5i, 0, 0, 10 + 10i, 0, 0, 0, complex(top-1, top)})
	set, regs := bools{0: true, 3: true, 7: true}, words{0: 4, 3: 10, 7: top}
	cases := []struct {
		name string
		set  func(*bools, *words)
		want bool
	}{
		{"as known", func(*bools, *words) {}, true},
		{"the lowest words", func(_ *bools, w *words) { w[0], w[7] = 3, top-1 }, true},
		{"the highest word", func(_ *bools, w *words) { w[0] = 5 }, true},
		{"one too low", func(_ *bools, w *words) { w[0] = 2 }, false},
		{"one too high", func(_ *bools, w *words) { w[0] = 6 }, false},
		{"below a single one", func(_ *bools, w *words) { w[3] = 9 }, false},
		{"beyond a single one", func(_ *bools, w *words) { w[3] = 11 }, false},
		{"the last one is too low", func(_ *bools, w *words) { w[7] = top - 2 }, false},
		{"the last one is 0", func(_ *bools, w *words) { w[7] = 0 }, false},
		{"two are not within", func(_ *bools, w *words) { w[0], w[3] = 0, 0 }, false},
		{"more are set", func(b *bools, w *words) { b[1], w[1], b[6], w[6] = true, top, true, 9 }, true},
		{"words of registers that are not set", func(_ *bools, w *words) { w[1], w[2], w[6] = 1, 2, top }, true},
		{"the first one is not set", func(b *bools, _ *words) { b[0] = false }, false},
		{"one between is not set", func(b *bools, _ *words) { b[3] = false }, false},
		{"the last one is not set", func(b *bools, _ *words) { b[7] = false }, false},
		{"none is set", func(b *bools, _ *words) { *b = bools{} }, false},
	}
	for _, c := range cases {
		b, w := set, regs
		c.set(&b, &w)
		if got := shape.Holds(s, b, w); got != c.want {
			t.Errorf("%s: Holds(%v, %v, %v) is %v", c.name, s, b, w, got)
		}
	}
}

// P10.3: a shape that knows of no register always holds.
func TestHoldsWithNothingKnown(t *testing.T) {
	for _, set := range subsets() {
		for _, w := range []words{{}, {1, 2, 3, 4, 5, 6, 7, 8}, {top, top, top, top, top, top, top, top}} {
			if !shape.Holds(api.Shape{}, set, w) {
				t.Errorf("Holds({}, %v, %v) is false", set, w)
			}
		}
	}
}

// P10.3: a register that is not set is not 0, although its word is.
func TestHoldsOfAllSets(t *testing.T) {
	for _, known := range subsets() {
		s := shapeOf(known, ends{0, 3i, all, 0, 0, 9i, 1i, 0})
		for _, set := range subsets() {
			want := true
			for n := range set {
				want = want && (set[n] || !known[n])
			}
			if got := shape.Holds(s, set, words{}); got != want {
				t.Fatalf("Holds with %v known and %v set is %v", known, set, got)
			}
		}
	}
}

// within tells by the definition whether bounds with integers as ends contain w.
func within(b complex128, w uint32) bool {
	return real(b) <= float64(w) && float64(w) <= imag(b)
}

// P10.3: every register counts, with all words next to the ends of its bounds.
func TestHoldsOfEachRegister(t *testing.T) {
	near := []uint32{0, 1, 2, 6, 7, 8, 9, 10, 11, 1<<31 - 1, 1 << 31, 1<<31 + 1, top - 2, top - 1, top}
	known := []complex128{0, 1i, 7 + 10i, 7 + 7i, complex(1<<31, 1<<31), complex(2, top-1), complex(top, top), all}
	for n := range registers {
		for _, b := range known {
			var s api.Shape
			var without bools
			s.Set[n], s.R[n], without[(n+1)%api.Regs] = true, b, true
			for _, w := range near {
				var regs words
				regs[n] = w
				if got := shape.Holds(s, s.Set, regs); got != within(b, w) {
					t.Errorf("Holds(%v, %v, %v) is %v", s, s.Set, regs, got)
				}
				if shape.Holds(s, without, regs) {
					t.Errorf("Holds(%v, %v, %v)", s, without, regs)
				}
			}
		}
	}
}

// P10.4: if one of two shapes holds, so does their Join.
func TestHoldsOfJoin(t *testing.T) {
	l := []api.Shape{{}}
	for _, a := range []complex128{0, 1 + 2i, 2 + 5i, 4 + 4i, complex(5, top)} {
		for _, b := range []complex128{3 + 3i, all} {
			r := ends{1: a, 6: b}
			l = append(l, shapeOf(bools{1: true}, r), shapeOf(bools{6: true}, r), shapeOf(bools{1: true, 6: true}, r))
		}
	}
	near := []uint32{0, 1, 2, 3, 4, 5, 6, top}
	held := 0
	for _, s := range l {
		for _, u := range l {
			join := shape.Join(s, u)
			for _, first := range near {
				for _, second := range near {
					for _, set := range []bools{{}, {1: true}, {6: true}, {1: true, 6: true}} {
						regs := words{1: first, 6: second}
						one := shape.Holds(s, set, regs) || shape.Holds(u, set, regs)
						if one && !shape.Holds(join, set, regs) {
							t.Fatalf("one of %v and %v holds for %v, %v; their Join does not", s, u, set, regs)
						}
						if one {
							held++
						}
					}
				}
			}
		}
	}
	if held < 10000 {
		t.Errorf("only %d times a shape held", held)
	}
}
