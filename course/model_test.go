package course_test

import (
	"fmt"
	"slices"
	"testing"

	"drydock/api"
	"drydock/course"
	"drydock/inst"
	"drydock/prog"
)

// follows tells whether the position to is a successor of the position at.
func follows(l []api.Inst, at, to int) bool {
	i := l[at]
	switch i.Op {
	case api.OpExit:
		return false
	case api.OpJump:
		return to == at+i.Off+1 || i.Fn != api.Always && to == at+1
	}
	return to == at+1
}

// modelNext tries all positions up to that of the farthest jump from the last
// position.
func modelNext(l []api.Inst, at int) []int {
	var next []int
	for to := range api.MaxCode + l[at].Off + 1 {
		if follows(l, at, to) {
			next = append(next, to)
		}
	}
	return next
}

// modelReach repeats what the definition says until nothing is added.
func modelReach(l []api.Inst) []bool {
	reached := make([]bool, len(l))
	reached[0] = true
	for changed := true; changed; {
		changed = false
		for at := len(l) - 1; at >= 0; at-- {
			for to := range l {
				if reached[at] && !reached[to] && follows(l, at, to) {
					reached[to], changed = true, true
				}
			}
		}
	}
	return reached
}

func modelFine(l []api.Inst) bool {
	for at, is := range modelReach(l) {
		for _, to := range modelNext(l, at) {
			if is && to >= len(l) {
				return false
			}
		}
	}
	return true
}

// paths returns what each path from a position on costs.
func paths(l []api.Inst, at int, calls []int) []int {
	if at >= len(l) {
		return []int{0}
	}
	own := 1
	if i := l[at]; i.Op == api.OpCall && int(i.Imm) < len(calls) && calls[i.Imm] >= 0 && calls[i.Imm] <= million {
		own += calls[i.Imm]
	}
	if l[at].Op == api.OpExit {
		return []int{own}
	}
	var costs []int
	for _, to := range modelNext(l, at) {
		for _, cost := range paths(l, to, calls) {
			costs = append(costs, own+cost)
		}
	}
	return costs
}

// modelLongest keeps of the paths from each position on the most expensive one.
func modelLongest(l []api.Inst, calls []int) int {
	rest := map[int]int{}
	for at := len(l) - 1; at >= 0; at-- {
		i := l[at]
		cost := 0
		for _, to := range modelNext(l, at) {
			cost = max(cost, rest[to])
		}
		if i.Op == api.OpCall && int(i.Imm) < len(calls) && calls[i.Imm] >= 0 && calls[i.Imm] <= million {
			cost += calls[i.Imm]
		}
		rest[at] = cost + 1
	}
	return min(rest[0], million)
}

// modelBudget computes the cost of function n for each call of it anew.
func modelBudget(p api.Prog, n int) int {
	calls := make([]int, len(p.Fns))
	for _, i := range p.Fns[n].Code {
		if k := int(i.Imm); i.Op == api.OpCall && k > n && k < len(p.Fns) && calls[k] == 0 {
			calls[k] = modelBudget(p, k)
		}
	}
	return modelLongest(p.Fns[n].Code, calls)
}

// checkModel checks all calls but Budget, and that every successor is greater
// than its position (P8.4).
func checkModel(t *testing.T, l []api.Inst, calls []int) {
	t.Helper()
	for at := range l {
		next := course.Next(l, at)
		if !slices.Equal(next, modelNext(l, at)) {
			t.Fatalf("Next at %d is %v; want %v, of %+v", at, next, modelNext(l, at), l)
		}
		if len(next) > 0 && next[0] <= at {
			t.Fatalf("Next at %d is %v, of %+v", at, next, l)
		}
	}
	if got, want := course.Reach(l), modelReach(l); !slices.Equal(got, want) {
		t.Fatalf("Reach is %v; want %v, of %+v", got, want, l)
	}
	if got := course.Fine(l); got != modelFine(l) {
		t.Fatalf("Fine is %v, of %+v", got, l)
	}
	if got, want := course.Longest(l, calls...), modelLongest(l, calls); got != want {
		t.Fatalf("Longest with %v is %d; want %d, of %+v", calls, got, want, l)
	}
}

// P8.1, P8.2, P8.4: all code of up to four instructions of some kinds.
func TestAllShortCode(t *testing.T) {
	each := code(plain(), exit(), call(0), call(1))
	for off := range 5 {
		each = append(each, always(off), maybe(off))
	}
	calls := []int{3, 11}
	var grow func(l []api.Inst)
	grow = func(l []api.Inst) {
		if len(l) > 0 {
			checkModel(t, l, calls)
			if got, want := course.Longest(l, calls...), slices.Max(paths(l, 0, calls)); got != want {
				t.Fatalf("Longest is %d; want %d, of %+v", got, want, l)
			}
		}
		if len(l) < 4 {
			for _, i := range each {
				grow(append(slices.Clip(l), i))
			}
		}
	}
	grow(nil)
}

// dice draws numbers, always the same ones.
type dice uint32

func (d *dice) below(n int) int {
	*d += 0x9e3779b9
	x := uint32(*d)
	x = (x ^ x>>16) * 0x7feb352d
	x = (x ^ x>>15) * 0x846ca68b
	return int((x ^ x>>16) % uint32(n))
}

// rarely tells true once in as many times.
func (d *dice) rarely(n int) bool { return d.below(n) == 0 }

// off draws how far a jump goes, rarely beyond the end.
func (d *dice) off(at, size int) int {
	if d.rarely(40) {
		return d.below(api.MaxOff + 1)
	}
	return min(d.below(1+d.below(8)), size-1-at)
}

// drawnCode returns valid code in which few instructions end a path.
func drawnCode(d *dice, size int) []api.Inst {
	l := times(size, plain())
	for at := range l {
		switch d.below(8) {
		case 0:
			l[at] = kinds()[d.below(len(kinds()))]
		case 1:
			l[at] = always(d.off(at, size))
		case 2, 3, 4:
			l[at] = conditions(d.off(at, size))[d.below(2*api.Conds-2)]
		case 5:
			l[at] = call(uint32(d.below(api.MaxFns + 1)))
		case 6:
			if d.rarely(6) {
				l[at] = exit()
			}
		}
	}
	if !d.rarely(5) {
		l[size-1] = exit()
	}
	return l
}

// P8.1, P8.2, P8.4: code of all sizes.
func TestCodeAgainstTheModel(t *testing.T) {
	d := dice(1)
	fine, unfine, far := 0, 0, 0
	for round := range 4000 {
		l := drawnCode(&d, 1+round%api.MaxCode)
		calls := make([]int, d.below(api.MaxFns+2))
		for k := range calls {
			calls[k] = []int{d.below(50), d.below(50), d.below(2 * million), -d.below(50), million - 64 + d.below(70)}[d.below(5)]
		}
		for _, i := range l {
			if !inst.May(i) {
				t.Fatalf("%+v is not valid", i)
			}
		}
		checkModel(t, l, calls)
		if course.Longest(l) > 25 {
			far++
		}
		if course.Fine(l) {
			fine++
		} else {
			unfine++
		}
	}
	if fine < 500 || unfine < 500 || far < 500 {
		t.Errorf("%d are fine, %d are not, %d are long", fine, unfine, far)
	}
}

// drawnProgram returns a valid program. In some of them most instructions are
// calls of greater numbers.
func drawnProgram(d *dice) api.Prog {
	p := api.Prog{Fns: make([]api.Fn, 1+d.below(api.MaxFns))}
	most, calls := []int{4, 12, api.MaxCode}[d.below(3)], d.below(4)
	for n := range p.Fns {
		p.Fns[n].Code = drawnCode(d, 1+d.below(most))
		for at, i := range p.Fns[n].Code {
			if i.Op != api.OpExit && d.below(4) < calls {
				p.Fns[n].Code[at] = call(uint32(n + 1 + d.below(len(p.Fns)-n)))
			}
		}
		if n > 0 {
			p.Fns[n].Args = d.below(api.MaxArgs + 1)
		}
	}
	return p
}

// P8.3: programs with calls of greater, smaller, the same and no numbers.
func TestProgramsAgainstTheModel(t *testing.T) {
	d := dice(2)
	small, great, limited := 0, 0, 0
	for range 9000 {
		p := drawnProgram(&d)
		if !prog.May(p) {
			t.Fatalf("%+v is not valid", p)
		}
		want := modelBudget(p, 0)
		checkBudget(t, "drawn", p, want)
		if t.Failed() {
			t.Fatal(fmt.Sprintf("%+v", p))
		}
		switch {
		case want == million:
			limited++
		case want > api.MaxBudget:
			great++
		case want > api.MaxCode:
			small++
		}
	}
	if small < 100 || great < 100 || limited < 10 {
		t.Errorf("%d, %d and %d programs are small, great and limited", small, great, limited)
	}
}
