package bounds_test

import (
	"math"
	"testing"

	"drydock/alu"
	"drydock/api"
	"drydock/bounds"
)

// P9.3: every comparison with chosen bounds.
func TestCut(t *testing.T) {
	last := complex(top, top)
	cases := []struct {
		name       string
		cond       int
		a, b, want complex128
		some       bool
	}{
		{"always", api.Always, 1 + 3i, 9 + 9i, 1 + 3i, true},
		{"always, the same word", api.Always, 4 + 4i, 4 + 4i, 4 + 4i, true},

		{"eq", api.Eq, 1 + 5i, 3 + 9i, 3 + 5i, true},
		{"eq, the other way", api.Eq, 3 + 9i, 1 + 5i, 3 + 5i, true},
		{"eq, within", api.Eq, 1 + 9i, 3 + 5i, 3 + 5i, true},
		{"eq, one word", api.Eq, 1 + 3i, 3 + 9i, 3 + 3i, true},
		{"eq, none", api.Eq, 1 + 2i, 3 + 9i, all, false},
		{"eq, none, the other way", api.Eq, 3 + 9i, 1 + 2i, all, false},

		{"ne, the lowest word", api.Ne, 1 + 5i, 1 + 1i, 2 + 5i, true},
		{"ne, the highest word", api.Ne, 1 + 5i, 5 + 5i, 1 + 4i, true},
		{"ne, a word between", api.Ne, 1 + 5i, 3 + 3i, 1 + 5i, true},
		{"ne, a word below", api.Ne, 1 + 5i, 0, 1 + 5i, true},
		{"ne, a word above", api.Ne, 1 + 5i, 6 + 6i, 1 + 5i, true},
		{"ne, two words", api.Ne, 1 + 5i, 1 + 2i, 1 + 5i, true},
		{"ne, two words, the highest too", api.Ne, 1 + 5i, 4 + 5i, 1 + 5i, true},
		{"ne, one word of two", api.Ne, 4 + 4i, 4 + 5i, 4 + 4i, true},
		{"ne, none", api.Ne, 4 + 4i, 4 + 4i, all, false},
		{"ne, none, the word 0", api.Ne, 0, 0, all, false},
		{"ne, none, the top word", api.Ne, last, last, all, false},
		{"ne, all but 0", api.Ne, all, 0, complex(1, top), true},
		{"ne, all but the top word", api.Ne, all, last, complex(0, top-1), true},

		{"lt", api.Lt, 9i, 4 + 6i, 5i, true},
		{"lt, lower words", api.Lt, 1 + 3i, 2 + 5i, 1 + 3i, true},
		{"lt, one word", api.Lt, 4 + 9i, 2 + 5i, 4 + 4i, true},
		{"lt, none", api.Lt, 5 + 9i, 2 + 5i, all, false},
		{"lt, none is less than 0", api.Lt, 9i, 0, all, false},
		{"lt, 0 is not less than 0", api.Lt, 0, 0, all, false},
		{"lt, all but the top word", api.Lt, all, all, complex(0, top-1), true},

		{"ge", api.Ge, 1 + 9i, 4 + 6i, 4 + 9i, true},
		{"ge, greater words", api.Ge, 7 + 9i, 4 + 6i, 7 + 9i, true},
		{"ge, one word", api.Ge, 1 + 4i, 4 + 6i, 4 + 4i, true},
		{"ge, none", api.Ge, 1 + 3i, 4 + 6i, all, false},
		{"ge, the top word", api.Ge, all, last, last, true},
		{"ge, 0", api.Ge, 5i, 9i, 5i, true},

		{"unknown", api.Conds, 1 + 3i, 4 + 6i, 1 + 3i, true},
	}
	for _, c := range cases {
		if got, some := bounds.Cut(c.cond, c.a, c.b); got != c.want || some != c.some {
			t.Errorf("%s: Cut(%d, %v, %v) is %v, %v; want %v, %v", c.name, c.cond, c.a, c.b, got, some, c.want, c.some)
		}
	}
}

// modelCut computes by the chapter, with integers of 64 bits.
func modelCut(cond int, x, y interval) (complex128, bool) {
	low, high := int64(x.low), int64(x.high)
	c, d := int64(y.low), int64(y.high)
	switch {
	case cond == api.Eq:
		low, high = max(low, c), min(high, d)
	case cond == api.Ne && c == d && c == low:
		low++
	case cond == api.Ne && c == d && c == high:
		high--
	case cond == api.Lt:
		high = min(high, d-1)
	case cond == api.Ge:
		low = max(low, c)
	}
	if low > high {
		return all, false
	}
	return complex(float64(low), float64(high)), true
}

// P9.3: every comparison with every pair of bounds between edge words.
func TestCutAgainstTheModel(t *testing.T) {
	l := intervals(edges())
	for cond := range api.Conds {
		for _, x := range l {
			for _, y := range l {
				got, some := bounds.Cut(cond, x.of(), y.of())
				if want, wantSome := modelCut(cond, x, y); got != want || some != wantSome {
					t.Fatalf("Cut(%d, %v, %v) is %v, %v; want %v, %v", cond, x.of(), y.of(), got, some, want, wantSome)
				}
			}
		}
	}
}

// holdsWithSome reports whether cond of v and some word of y holds.
func holdsWithSome(cond int, v uint32, y interval) bool {
	for k := range int(y.high-y.low) + 1 {
		if holds, _ := alu.Holds(cond, v, y.low+uint32(k)); holds {
			return true
		}
	}
	return false
}

// checkCut checks that Cut extends from the first to the last word of x for
// which cond with some word of y holds.
func checkCut(t *testing.T, cond int, x, y interval) {
	t.Helper()
	want, wantSome := all, false
	for k := range int(x.high-x.low) + 1 {
		v := x.low + uint32(k)
		if !holdsWithSome(cond, v, y) {
			continue
		}
		if !wantSome {
			want, wantSome = bounds.Of(v, v), true
		}
		want = complex(real(want), float64(v))
	}
	if got, some := bounds.Cut(cond, x.of(), y.of()); got != want || some != wantSome {
		t.Fatalf("Cut(%d, %v, %v) is %v, %v; want %v, %v", cond, x.of(), y.of(), got, some, want, wantSome)
	}
}

// P9.3, P9.4: word by word, for all bounds of small words and of the greatest
// ones, and with the ones against the others.
func TestCutWordByWord(t *testing.T) {
	small, great := intervals(counted(0, 10)), intervals(counted(top-8, 9))
	for cond := range api.Conds {
		for _, x := range append(small, great...) {
			for _, y := range append(small, great...) {
				checkCut(t, cond, x, y)
			}
		}
	}
}

// P9.4: a word for which a comparison holds lies within Cut, and there are some.
func TestHoldingWordsLieWithinCut(t *testing.T) {
	words := []uint32{0, 1, 2, 5, 31, 32, 65536, 1<<31 - 1, 1 << 31, 0xdeadbeef, top - 1, top}
	for cond := range api.Conds {
		for _, x := range intervals(words) {
			for _, y := range intervals(words) {
				cut, some := bounds.Cut(cond, x.of(), y.of())
				for _, v := range words {
					for _, w := range words {
						holds, _ := alu.Holds(cond, v, w)
						if holds && bounds.Has(x.of(), v) && bounds.Has(y.of(), w) && (!some || !bounds.Has(cut, v)) {
							t.Fatalf("%d of %d and %d holds; Cut(%d, %v, %v) is %v, %v", cond, v, w, cond, x.of(), y.of(), cut, some)
						}
					}
				}
			}
		}
	}
}

// P9.3, P1: an unknown cond leaves a as it is, whatever b is; a that is not
// valid counts as All there, too.
func TestCutOutsideTheRange(t *testing.T) {
	for _, cond := range []int{-1, -2, -api.Conds, math.MinInt, math.MinInt32, api.Conds, api.Conds + 1, 255, 256, 1 << 32, 1<<32 + 1, math.MaxInt32, math.MaxInt} {
		for _, b := range append(wrong(), 0, 5+5i, all) {
			for _, i := range intervals([]uint32{0, 1, 5, top}) {
				if got, some := bounds.Cut(cond, i.of(), b); got != i.of() || !some {
					t.Fatalf("Cut(%d, %v, %v) is %v, %v; want %v, true", cond, i.of(), b, got, some, i.of())
				}
			}
			for _, a := range wrong() {
				if got, some := bounds.Cut(cond, a, b); got != all || !some {
					t.Fatalf("Cut(%d, %v, %v) is %v, %v; want %v, true", cond, a, b, got, some, all)
				}
			}
		}
	}
}

// sameCut checks that two pairs of bounds have the same Cut.
func sameCut(t *testing.T, cond int, a, b, likeA, likeB complex128) {
	t.Helper()
	got, some := bounds.Cut(cond, a, b)
	if want, wantSome := bounds.Cut(cond, likeA, likeB); got != want || some != wantSome {
		t.Errorf("Cut(%d, %v, %v) is %v, %v; want %v, %v", cond, a, b, got, some, want, wantSome)
	}
}

// P9.3, P1: bounds that are not valid count as All, on either side and on both.
func TestCutOfWrongBounds(t *testing.T) {
	for cond := range api.Conds {
		for _, w := range wrong() {
			sameCut(t, cond, w, w, all, all)
			for _, i := range intervals([]uint32{0, 1, 5, top - 1, top}) {
				sameCut(t, cond, w, i.of(), all, i.of())
				sameCut(t, cond, i.of(), w, i.of(), all)
			}
		}
	}
}

// P9.3: a zero below 0 counts as 0.
func TestCutOfZeros(t *testing.T) {
	for cond := range api.Conds {
		for _, z := range zeros() {
			sameCut(t, cond, z[0], z[0], z[1], z[1])
			for _, i := range intervals([]uint32{0, 1, 5, top}) {
				sameCut(t, cond, z[0], i.of(), z[1], i.of())
				sameCut(t, cond, i.of(), z[0], i.of(), z[1])
			}
		}
	}
}
