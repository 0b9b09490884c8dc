package course_test

import (
	"fmt"
	"math"
	"testing"

	"drydock/api"
	"drydock/course"
)

const million = 1000000

func checkLongest(t *testing.T, name string, l []api.Inst, want int, calls ...int) {
	t.Helper()
	if got := course.Longest(l, calls...); got != want {
		t.Errorf("%s: Longest with %v is %d; want %d", name, calls, got, want)
	}
}

// P8.2: each instruction costs 1.
func TestLongestOfPaths(t *testing.T) {
	for _, c := range []struct {
		name string
		l    []api.Inst
		want int
	}{
		{"exit", code(exit()), 1},
		{"row", code(plain(), plain(), exit()), 3},
		{"exit before the end", code(plain(), exit(), plain(), plain()), 2},
		{"unreached behind an exit", code(exit(), plain(), plain()), 1},
		{"no end", code(plain()), 1},
		{"longer, no end", code(plain(), plain(), plain(), plain()), 4},
		{"jump to the next", code(always(0), exit()), 2},
		{"jump over", code(always(2), plain(), plain(), exit()), 2},
		{"jump to the end", code(plain(), always(1), exit()), 2},
		{"jump beyond the end", code(plain(), always(2), exit()), 2},
		{"jump far beyond the end", code(plain(), always(api.MaxOff), exit(), exit()), 2},
		{"jump at the end", code(plain(), always(0)), 2},
		{"condition to the next", code(maybe(0), exit()), 2},
		{"condition at the end", code(plain(), maybe(0)), 2},
		{"condition far beyond the end", code(maybe(api.MaxOff)), 1},
		{"condition whose way on is longer", code(maybe(2), plain(), plain(), exit()), 4},
		{"condition whose way on ends at once", code(maybe(1), exit(), plain(), plain(), exit()), 4},
		{"condition to the end, or to an exit", code(maybe(1), exit()), 2},
		{"condition beyond the end, or on", code(maybe(9), plain(), plain()), 3},
		{"two ways that meet, the first one longer", code(maybe(3), plain(), plain(), always(1), plain(), exit()), 5},
		{"two ways that meet, the second one longer", code(maybe(2), plain(), always(2), plain(), plain(), exit()), 4},
		{"two ways that meet, the second one much longer", code(maybe(1), always(3), plain(), plain(), plain(), exit()), 5},
		{"two ways that meet, alike", code(maybe(2), plain(), always(2), plain(), always(0), exit()), 4},
		{"two ways that meet, and no end", code(maybe(2), plain(), always(2), plain(), plain(), plain()), 4},
		{"four ways", code(maybe(2), plain(), always(1), plain(), maybe(1), exit(), plain(), plain(), exit()), 7},
		{"unreached way to a reached position", code(always(3), plain(), plain(), plain(), exit()), 2},
		{"unreached jump to a reached position", code(always(1), maybe(1), plain(), exit()), 3},
		{"chain of jumps", code(always(1), plain(), always(1), plain(), always(1), plain(), exit()), 4},
	} {
		checkLongest(t, c.name, c.l, c.want)
		checkLongest(t, c.name, c.l, c.want, 5, 6, 7)
	}
	for n := 1; n <= api.MaxCode; n++ {
		checkLongest(t, "no end", times(n, plain()), n)
		checkLongest(t, "calls of nothing", times(n, call(0)), n)
	}
}

// P8.2: instructions of other kinds than OpCall cost 1, whatever their Imm is.
func TestLongestOfKinds(t *testing.T) {
	calls := []int{10, 20, 30, 40}
	for _, i := range append(kinds(), conditions(0)...) {
		want := 2
		if i.Op == api.OpCall && i.Imm < 4 {
			want += calls[i.Imm]
		}
		checkLongest(t, fmt.Sprintf("%+v", i), code(i, exit()), want, calls...)
	}
}

// P8.2: an OpCall costs an element of calls, if there is such an element.
func TestLongestOfCalls(t *testing.T) {
	l := code(call(0), exit())
	for _, c := range []struct{ called, adds int }{
		{math.MinInt, 0},
		{-million, 0},
		{-1, 0},
		{0, 0},
		{1, 1},
		{2, 2},
		{98, 98},
		{2000, 2000},
		{million - 3, million - 3},
		{million - 2, million - 2},
		{million - 1, million - 1},
		{million, million},
		{million + 1, 0},
		{million + 2, 0},
		{1 << 31, 0},
		{1 << 32, 0},
		{1<<32 + 5, 0},
		{math.MaxInt, 0},
	} {
		alone, before := min(1+c.adds, million), min(2+c.adds, million)
		checkLongest(t, "one element", l, before, c.called)
		checkLongest(t, "two elements", l, before, c.called, 50)
		checkLongest(t, "second element", code(call(1), exit()), before, 50, c.called)
		checkLongest(t, "no end", code(call(0)), alone, c.called)
		checkLongest(t, "another element", code(call(1), exit()), 2, c.called)
	}
	for k := range uint32(8) {
		checkLongest(t, fmt.Sprint("call of ", k), code(call(k), exit()), 12+int(k), 10, 11, 12, 13, 14, 15, 16, 17)
	}
	for _, k := range []uint32{8, 9, 63, 64, 1 << 16, 1 << 31, top - 1, top} {
		checkLongest(t, fmt.Sprint("call of ", k), code(call(k), exit()), 2, 10, 11, 12, 13, 14, 15, 16, 17)
		checkLongest(t, fmt.Sprint("call of ", k, " without calls"), code(call(k), exit()), 2)
	}
	many := make([]int, 70000)
	many[65535], many[65536], many[69999] = 5, 6, 7
	checkLongest(t, "far elements", code(call(65535), call(65536), call(69999), call(70000), exit()), 23, many...)
}

// P8.2: calls of one function, and of several, are added along one path only.
func TestLongestAddsCalls(t *testing.T) {
	calls := []int{100, 10, million + 1, -5, 7}
	for _, c := range []struct {
		name string
		l    []api.Inst
		want int
	}{
		{"twice", code(call(0), call(0), exit()), 203},
		{"several", code(call(0), call(1), call(2), call(3), call(4), call(5), exit()), 124},
		{"in one of two ways", code(maybe(1), call(0), exit()), 103},
		{"over a call", code(always(1), call(0), exit()), 2},
		{"behind an exit", code(exit(), call(0)), 1},
		{"one of two ways", code(maybe(2), call(0), exit(), call(1), exit()), 103},
		{"the other one of two ways", code(maybe(2), call(1), exit(), call(0), exit()), 103},
		{"a short way with a call", code(maybe(4), plain(), plain(), plain(), always(1), call(0), exit()), 103},
		{"a short way with a cheap call", code(maybe(9), plain(), plain(), plain(), plain(), plain(), plain(), plain(), plain(), always(1), call(4), exit()), 11},
		{"two ways that meet", code(maybe(2), call(0), always(1), call(1), call(4), exit()), 112},
		{"a call that leads to a position that a longer way leads to", code(maybe(2), plain(), plain(), call(0), exit()), 105},
		{"an unreached call before a reached position", code(always(1), call(0), call(1), exit()), 13},
		{"no end", code(plain(), call(0)), 102},
		{"beyond the end", code(maybe(5), call(0), exit()), 103},
		{"an exit first, or a call and no end", code(maybe(1), exit(), call(0)), 102},
	} {
		checkLongest(t, c.name, c.l, c.want, calls...)
	}
}

// P8.2: the result is at most 10^6.
func TestLongestIsLimited(t *testing.T) {
	half := million / 2
	for _, c := range []struct {
		name   string
		l      []api.Inst
		called int
		want   int
	}{
		{"just less", code(call(0), call(0), plain(), exit()), half - 3, million - 2},
		{"one less", code(call(0), call(0), plain(), plain(), exit()), half - 3, million - 1},
		{"just the limit", code(call(0), call(0), exit(), plain()), half - 1, million},
		{"just the limit, longer", code(call(0), call(0), plain(), exit()), half - 2, million},
		{"one more", code(call(0), call(0), plain(), exit()), half - 1, million},
		{"two more", code(call(0), call(0), exit()), half, million},
		{"just the limit, no end", code(call(0), call(0)), half - 1, million},
		{"one more, no end", code(call(0), call(0), plain()), half - 1, million},
		{"one call", code(call(0)), million - 1, million},
		{"one call and more", code(call(0)), million, million},
		{"a row behind the limit", join(code(call(0)), times(63, plain())), million, million},
		{"a row up to the limit", join(times(63, plain()), code(call(0))), million - 64, million},
		{"a row just below the limit", join(times(63, plain()), code(call(0))), million - 65, million - 1},
		{"a way below the limit too", code(maybe(2), call(0), call(0), exit()), million, million},
		{"all calls", times(64, call(0)), million, million},
		{"many calls up to the limit", join(times(63, call(0)), code(exit())), 15872, million},
		{"many calls below the limit", join(times(63, call(0)), code(exit())), 15871, million - 63},
	} {
		checkLongest(t, c.name, c.l, c.want, c.called)
	}
}
