package bounds_test

import (
	"math"
	"testing"

	"drydock/bounds"
)

const top = math.MaxUint32

// all are the bounds of all words.
const all = complex(0, top)

// edges are words near the ends of the range, near powers of two and near the
// width of a word, and some ordinary ones, in increasing order.
func edges() []uint32 {
	return []uint32{
		0, 1, 2, 3, 4, 5, 7, 8, 9, 15, 16, 17, 31, 32, 33, 63, 64, 65, 1000,
		65535, 65536, 65537, 1<<31 - 1, 1 << 31, 1<<31 + 1, 0xdeadbeef, top - 31, top - 1, top,
	}
}

// interval is what bounds stand for.
type interval struct{ low, high uint32 }

// of returns the bounds by the definition.
func (i interval) of() complex128 { return complex(float64(i.low), float64(i.high)) }

// intervals returns all with ends in words, which increase.
func intervals(words []uint32) []interval {
	var l []interval
	for k, low := range words {
		for _, high := range words[k:] {
			l = append(l, interval{low, high})
		}
	}
	return l
}

// wrong returns what is not valid as bounds.
func wrong() []complex128 {
	least, inf, nan := math.SmallestNonzeroFloat64, math.Inf(1), math.NaN()
	return []complex128{
		1, -1, -1i, 2i - 1, -1 - 1i, complex(3, 2), complex(top, 0), complex(top, top-1),
		complex(-top, top), complex(-1<<32, 5),
		complex(0.5, 2), complex(0, 2.5), complex(0.5, 0.5), complex(0.25, 0.75), complex(2, 1.5),
		complex(least, 1), complex(0, least), complex(-least, 0), complex(-0.5, 1),
		complex(0, top+0.5), complex(top+0.5, top+0.5), complex(top-0.5, top), complex(0, math.Nextafter(top, inf)),
		complex(0, 1<<32), complex(1<<32, 1<<32), complex(5, 1<<32+5), complex(0, 1<<53), complex(0, 1<<63), complex(1<<64, 1<<64),
		complex(0, math.MaxFloat64), complex(-math.MaxFloat64, math.MaxFloat64),
		complex(0, inf), complex(-inf, 0), complex(-inf, inf), complex(inf, inf), complex(-inf, -inf), complex(inf, 0),
		complex(nan, 2), complex(0, nan), complex(nan, nan), complex(nan, inf), complex(-inf, nan),
	}
}

// negative is the zero below 0, which is the integer 0 like the other one.
func negative() float64 { return math.Copysign(0, -1) }

// zeros returns valid bounds with a zero below 0, and the same with the other.
func zeros() [][2]complex128 {
	return [][2]complex128{
		{complex(negative(), negative()), 0},
		{complex(negative(), 0), 0},
		{complex(0, negative()), 0},
		{complex(negative(), 7), 7i},
		{complex(negative(), top), all},
	}
}

// P9.1: the bounds of two words, in either order.
func TestOf(t *testing.T) {
	cases := []struct {
		low, high uint32
		want      complex128
	}{
		{0, 0, 0},
		{0, 1, 1i},
		{1, 0, 1i},
		{1, 3, 1 + 3i},
		{7, 2, 2 + 7i},
		{5, 5, 5 + 5i},
		{0, top, all},
		{top, 0, all},
		{top, top, complex(top, top)},
		{top, top - 1, complex(top-1, top)},
		{1 << 31, 1<<31 - 1, complex(1<<31-1, 1<<31)},
	}
	for _, c := range cases {
		if got := bounds.Of(c.low, c.high); got != c.want {
			t.Errorf("Of(%d, %d) is %v; want %v", c.low, c.high, got, c.want)
		}
	}
}

// P9.1: what Of returns is valid, and Ends tells the words again.
func TestEndsOfBounds(t *testing.T) {
	for _, i := range intervals(edges()) {
		for _, b := range []complex128{bounds.Of(i.low, i.high), bounds.Of(i.high, i.low), i.of()} {
			low, high, ok := bounds.Ends(b)
			if low != i.low || high != i.high || !ok {
				t.Errorf("Ends(%v) is %d, %d, %v; want %d, %d, true", b, low, high, ok, i.low, i.high)
			}
			if !bounds.May(b) {
				t.Errorf("May(%v) is false", b)
			}
		}
	}
}

// P9.1: bounds contain their ends and what is between, and nothing else.
func TestHas(t *testing.T) {
	for _, i := range intervals(edges()) {
		for _, w := range edges() {
			want := w >= i.low && w <= i.high
			if got := bounds.Has(i.of(), w); got != want {
				t.Errorf("Has(%v, %d) is %v", i.of(), w, got)
			}
		}
	}
}

// P9.1: Join is from the lowest end to the highest one.
func TestJoin(t *testing.T) {
	cases := []struct{ a, b, want complex128 }{
		{1 + 2i, 8 + 9i, 1 + 9i},
		{8 + 9i, 1 + 2i, 1 + 9i},
		{1 + 5i, 3 + 9i, 1 + 9i},
		{1 + 9i, 3 + 5i, 1 + 9i},
		{3 + 5i, 1 + 9i, 1 + 9i},
		{1 + 2i, 2 + 3i, 1 + 3i},
		{4 + 4i, 4 + 4i, 4 + 4i},
		{0, complex(top, top), all},
		{complex(top-1, top), complex(top, top), complex(top-1, top)},
		{0, 0, 0},
	}
	for _, c := range cases {
		if got := bounds.Join(c.a, c.b); got != c.want {
			t.Errorf("Join(%v, %v) is %v; want %v", c.a, c.b, got, c.want)
		}
	}
}

// P9.1: Join contains both bounds, and bounds that contain both contain it.
func TestJoinIsTheSmallest(t *testing.T) {
	within := func(i, outer interval) bool { return outer.low <= i.low && i.high <= outer.high }
	l := intervals([]uint32{0, 1, 2, 5, 1 << 31, top - 1, top})
	for _, a := range l {
		for _, b := range l {
			low, high, ok := bounds.Ends(bounds.Join(a.of(), b.of()))
			join := interval{low, high}
			if !ok || !within(a, join) || !within(b, join) {
				t.Fatalf("Join of %v and %v is %v, %v", a, b, join, ok)
			}
			for _, c := range l {
				if within(a, c) && within(b, c) && !within(join, c) {
					t.Errorf("Join of %v and %v is %v; %v contains both as well", a, b, join, c)
				}
			}
		}
	}
}

// P9.1, P1: what is not valid has no ends and no words, and is All in a Join.
func TestWrongBounds(t *testing.T) {
	for _, b := range wrong() {
		if bounds.May(b) {
			t.Errorf("May(%v) is true", b)
		}
		if low, high, ok := bounds.Ends(b); low != 0 || high != 0 || ok {
			t.Errorf("Ends(%v) is %d, %d, %v; want 0, 0, false", b, low, high, ok)
		}
		for _, w := range edges() {
			if bounds.Has(b, w) {
				t.Errorf("Has(%v, %d) is true", b, w)
			}
		}
		for _, other := range append(wrong(), 0, 2+3i, all, complex(top, top)) {
			if got := bounds.Join(b, other); got != all {
				t.Errorf("Join(%v, %v) is %v; want %v", b, other, got, all)
			}
			if got := bounds.Join(other, b); got != all {
				t.Errorf("Join(%v, %v) is %v; want %v", other, b, got, all)
			}
		}
	}
}

// P9.1: a zero below 0 is an integer in the range, too.
func TestZeros(t *testing.T) {
	for _, z := range zeros() {
		low, high, ok := bounds.Ends(z[0])
		wantLow, wantHigh, _ := bounds.Ends(z[1])
		if low != wantLow || high != wantHigh || !ok || !bounds.May(z[0]) {
			t.Errorf("Ends(%v) is %d, %d, %v; want %d, %d, true", z[0], low, high, ok, wantLow, wantHigh)
		}
		if !bounds.Has(z[0], 0) {
			t.Errorf("Has(%v, 0) is false", z[0])
		}
		for _, i := range intervals([]uint32{0, 1, 7, top}) {
			if got, want := bounds.Join(z[0], i.of()), bounds.Join(z[1], i.of()); got != want {
				t.Errorf("Join(%v, %v) is %v; want %v", z[0], i.of(), got, want)
			}
		}
	}
}
