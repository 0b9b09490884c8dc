package course_test

import (
	"fmt"
	"math"
	"reflect"
	"slices"
	"testing"

	"drydock/api"
	"drydock/course"
	"drydock/inst"
)

// samples are valid and other code.
func samples() [][]api.Inst {
	l := [][]api.Inst{
		nil,
		{},
		code(exit()),
		code(plain()),
		code(maybe(1), plain(), exit()),
		code(call(0), call(1), call(2), exit()),
		code(always(1), maybe(9), exit()),
		code(maybe(3), plain(), api.Inst{Op: -1}, exit()),
		code(maybe(0), always(0)),
		times(64, maybe(1)),
		times(65, plain()),
	}
	for _, i := range append(kinds(), wrong()...) {
		l = append(l, code(i, exit()), code(exit(), i))
	}
	return l
}

// spare returns l with room behind it, filled with what must not change either.
func spare[T any](l []T, more T) []T {
	return append(slices.Clone(l), more, more)[:len(l)]
}

// whole returns what l holds, also behind its end.
func whole[T any](l []T) []T { return slices.Clone(l[:cap(l)]) }

// R3: no call modifies code, calls or a program.
func TestArgumentsStay(t *testing.T) {
	for k, sample := range samples() {
		name := fmt.Sprint("sample ", k)
		l := spare(sample, call(77))
		p := api.Prog{Fns: spare([]api.Fn{{Code: l}, {Args: 2, Code: code(call(0), call(2), exit())}, {Code: l}}, api.Fn{Args: 79})}
		before, beforeFns := whole(l), whole(p.Fns)
		for at := -1; at <= len(l); at++ {
			course.Next(l, at)
		}
		course.Reach(l)
		course.Fine(l)
		for _, x := range []int{math.MinInt, -1, 0, 5, million, million + 1, math.MaxInt} {
			calls := spare([]int{x, 1, x}, 78)
			course.Longest(l, calls...)
			if want := []int{x, 1, x, 78, 78}; !slices.Equal(whole(calls)[:5], want) {
				t.Errorf("%s: the calls became %v; want %v", name, whole(calls), want)
			}
		}
		course.Budget(p)
		if !slices.Equal(whole(l), before) {
			t.Errorf("%s: the code became %+v", name, whole(l))
		}
		if !reflect.DeepEqual(whole(p.Fns), beforeFns) {
			t.Errorf("%s: the program became %+v", name, whole(p.Fns))
		}
	}
}

// spoil changes a result, also behind its end.
func spoil[T any](l []T, x T) {
	l = l[:cap(l)]
	for k := range l {
		l[k] = x
	}
}

// checkApart changes one result after the other, and checks that each of them
// is as it was when the call returned it, whatever was called and changed
// behind that.
func checkApart[T comparable](t *testing.T, name string, ask func() [][]T, x T) {
	t.Helper()
	var results, wants [][]T
	for range 2 {
		for _, l := range ask() {
			results, wants = append(results, l), append(wants, slices.Clone(l))
		}
	}
	for k, l := range results {
		if !slices.Equal(l, wants[k]) {
			t.Errorf("%s: result %d became %v; want %v", name, k, l, wants[k])
		}
		spoil(l, x)
	}
	for k, l := range ask() {
		if !slices.Equal(l, wants[k]) {
			t.Errorf("%s: result %d is then %v; want %v", name, k, l, wants[k])
		}
	}
}

// R3: later calls, and later changes to a result, affect no other result.
func TestResultsAreApart(t *testing.T) {
	for k, sample := range samples() {
		name := fmt.Sprint("sample ", k)
		l := spare(sample, call(77))
		before := whole(l)
		checkApart(t, name, func() [][]int {
			var nexts [][]int
			for at := range l {
				nexts = append(nexts, course.Next(l, at))
			}
			return nexts
		}, -7)
		for _, x := range []bool{false, true} {
			checkApart(t, name, func() [][]bool { return [][]bool{course.Reach(l), course.Reach(l)} }, x)
		}
		if !slices.Equal(whole(l), before) {
			t.Errorf("%s: the code became %+v", name, whole(l))
		}
	}
}

// R3: later changes to the code affect no result.
func TestArgumentsAreApart(t *testing.T) {
	for k, sample := range samples() {
		l := slices.Clone(sample)
		var nexts, wants [][]int
		for at := range l {
			nexts = append(nexts, course.Next(l, at))
			wants = append(wants, slices.Clone(nexts[at]))
		}
		reached := course.Reach(l)
		want := slices.Clone(reached)
		for at := range l {
			l[at] = api.Inst{Op: api.OpJump, Fn: api.Ne, Off: 3}
		}
		for at := range l {
			if !slices.Equal(nexts[at], wants[at]) {
				t.Errorf("sample %d: Next at %d became %v; want %v", k, at, nexts[at], wants[at])
			}
		}
		if !slices.Equal(reached, want) {
			t.Errorf("sample %d: Reach became %v; want %v", k, reached, want)
		}
	}
}

// R5: a result depends on the arguments alone, whatever was called before.
func TestResultsStay(t *testing.T) {
	type answer struct {
		next    []int
		reach   []bool
		fine    bool
		longest int
		budget  int
	}
	ask := func(l []api.Inst) answer {
		p := program(fn(l...), fn(plain(), call(2), exit()), fn(l...))
		return answer{course.Next(l, 0), course.Reach(l), course.Fine(l), course.Longest(l, 4, 5, 6), course.Budget(p)}
	}
	var first []answer
	for _, l := range samples() {
		first = append(first, ask(l))
	}
	for range 3 {
		for k, l := range slices.Backward(samples()) {
			if got := ask(l); !reflect.DeepEqual(got, first[k]) {
				t.Errorf("sample %d: %+v, first %+v", k, got, first[k])
			}
		}
	}
}

// P1, R1: whatever the arguments are, no call panics, and what is not valid is
// answered as such.
func TestAnyArguments(t *testing.T) {
	d := dice(5)
	numbers := []int{math.MinInt, math.MinInt32, -65536, -1, 0, 1, 2, 3, 4, 5, 7, 8, 10, 11, 64, 65535, 65536, math.MaxInt32, math.MaxUint32, math.MaxInt}
	some := func() int {
		if d.rarely(4) {
			return numbers[d.below(len(numbers))]
		}
		return 0
	}
	for range 20000 {
		l := make([]api.Inst, d.below(5))
		for k := range l {
			l[k] = api.Inst{Op: some(), Fn: some(), Dst: some(), Src: some(), Off: some(), Reg: d.rarely(9), Imm: uint32(some())}
		}
		at, calls := numbers[d.below(len(numbers))], []int{some(), some(), some()}[:d.below(4)]
		valid := len(l) > 0 && !slices.ContainsFunc(l, func(i api.Inst) bool { return !inst.May(i) })
		if got := course.Next(l, at); len(got) > 0 && (!valid || at < 0 || at >= len(l)) {
			t.Fatalf("Next at %d is %v, of %+v", at, got, l)
		}
		if got := course.Reach(l); valid && len(got) != len(l) || !valid && len(got) > 0 {
			t.Fatalf("Reach is %v, of %+v", got, l)
		}
		if course.Fine(l) && !valid {
			t.Fatalf("Fine of %+v", l)
		}
		if got := course.Longest(l, calls...); got < 0 || got > million || valid != (got > 0) {
			t.Fatalf("Longest with %v is %d, of %+v", calls, got, l)
		}
		p := api.Prog{Fns: []api.Fn{{Args: some(), Code: l}, {Args: some(), Code: l}}[:d.below(3)]}
		if got := course.Budget(p); got < 0 || got > million || got > 0 && !valid {
			t.Fatalf("Budget is %d, of %+v", got, p)
		}
	}
}
