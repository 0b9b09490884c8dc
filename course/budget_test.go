package course_test

import (
	"fmt"
	"slices"
	"testing"

	"drydock/api"
	"drydock/course"
	"drydock/interp"
)

func fn(l ...api.Inst) api.Fn { return api.Fn{Code: l} }

func program(l ...api.Fn) api.Prog { return api.Prog{Fns: l} }

func checkBudget(t *testing.T, name string, p api.Prog, want int) {
	t.Helper()
	if got := course.Budget(p); got != want {
		t.Errorf("%s: Budget is %d; want %d", name, got, want)
	}
}

// P8.3: Budget of a program that is not valid.
func TestBudgetOfWrongPrograms(t *testing.T) {
	end := fn(exit())
	args := func(n int) api.Fn { return api.Fn{Args: n, Code: code(exit())} }
	for _, c := range []struct {
		name string
		p    api.Prog
	}{
		{"zero", api.Prog{}},
		{"no functions", program()},
		{"nine functions", program(end, end, end, end, end, end, end, end, end)},
		{"many functions", api.Prog{Fns: slices.Repeat([]api.Fn{end}, 300)}},
		{"arguments of function 0", program(args(1))},
		{"arguments of function 0 of two", program(args(4), args(4))},
		{"negative arguments of function 0", program(args(-1))},
		{"too many arguments", program(end, args(5))},
		{"negative arguments", program(end, args(-1))},
		{"no code", program(fn())},
		{"no code of a later function", program(end, end, fn())},
		{"too much code", program(fn(times(65, exit())...))},
		{"too much code of a later function", program(end, fn(times(65, exit())...))},
		{"wrong instruction", program(fn(exit(), api.Inst{Op: -1}))},
	} {
		checkBudget(t, c.name, c.p, 0)
	}
	for _, i := range wrong() {
		for _, at := range []int{0, 1, 7} {
			p := program(slices.Repeat([]api.Fn{end}, 8)...)
			p.Fns[at] = fn(exit(), i)
			checkBudget(t, fmt.Sprintf("%+v in function %d", i, at), p, 0)
		}
	}
}

// P8.3: Budget of programs.
func TestBudget(t *testing.T) {
	two, five := fn(plain(), exit()), fn(plain(), plain(), plain(), plain(), exit())
	short := fn(maybe(1), plain(), exit())
	for _, c := range []struct {
		name string
		p    api.Prog
		want int
	}{
		{"one function", program(two), 2},
		{"no end", program(fn(plain())), 1},
		{"no calls", program(two, five, five), 2},
		{"a call", program(fn(call(1), exit()), five), 7},
		{"a call of the last one", program(fn(call(2), exit()), two, five), 7},
		{"calls of two", program(fn(call(1), call(2), exit()), two, five), 10},
		{"called twice", program(fn(call(1), call(1), exit()), five), 13},
		{"called three times by two", program(fn(call(1), call(2), exit()), fn(call(2), call(2), exit()), five), 3 + 13 + 5},
		{"the same number", program(fn(call(0), exit()), five), 2},
		{"the same number later on", program(fn(call(1), exit()), fn(call(1), call(1), exit())), 5},
		{"a smaller number", program(fn(call(2), exit()), five, fn(call(1), exit())), 4},
		{"the smallest number", program(fn(call(1), plain(), exit()), fn(call(0), exit())), 5},
		{"smaller, same, greater", program(fn(call(2), exit()), five, fn(call(0), call(1), call(2), call(3), exit()), two), 9},
		{"in the last function", program(fn(call(7), exit()), two, two, two, two, two, two, fn(call(0), call(1), call(6), call(7), call(8), exit())), 8},
		{"no such function", program(fn(call(1), exit())), 2},
		{"no such function of two", program(fn(call(2), exit()), five), 2},
		{"no such function of eight", program(fn(call(8), exit()), five, five, five, five, five, five, five), 2},
		{"far numbers", program(fn(call(64), call(255), call(256), call(257), call(1<<31), call(top-1), call(top), exit()), five), 8},
		{"the longer one of two ways", program(fn(maybe(1), call(1), exit()), short), 6},
		{"the cheaper call is on the longer way", program(fn(maybe(3), call(1), plain(), always(1), call(2), exit()), two, fn(times(9, plain())...)), 12},
		{"an unreached call", program(fn(always(1), call(1), exit()), five), 2},
		{"a call behind the end", program(fn(exit(), call(1)), five), 1},
		{"a chain", program(fn(call(1), exit()), fn(call(2), exit()), fn(call(3), exit()), fn(call(4), exit()), fn(call(5), exit()), fn(call(6), exit()), fn(call(7), exit()), five), 19},
		{"a chain, forth and back", program(fn(call(7), exit()), fn(call(2), exit()), five, five, five, five, five, fn(call(1), exit())), 4},
		{"a jump beyond the end", program(fn(call(1), always(9), exit()), fn(maybe(9), plain())), 4},
	} {
		checkBudget(t, c.name, c.p, c.want)
		for k := 1; k < len(c.p.Fns); k++ {
			c.p.Fns[k].Args = k % (api.MaxArgs + 1)
		}
		checkBudget(t, c.name+", with arguments", c.p, c.want)
	}
}

// P8.3: whichever function calls whichever one, once.
func TestBudgetOfEachCall(t *testing.T) {
	for size := 1; size <= api.MaxFns; size++ {
		for from := range size {
			for to := range size + 2 {
				p := program(slices.Repeat([]api.Fn{fn(exit())}, size)...)
				for k := range p.Fns {
					p.Fns[k].Code = join(times(k, plain()), code(exit()))
				}
				p.Fns[from].Code = code(call(uint32(to)), exit())
				cost := 2
				if to > from && to < size {
					cost += to + 1
				}
				if from == 0 {
					checkBudget(t, fmt.Sprintf("%d calls %d of %d", from, to, size), p, cost)
					continue
				}
				p.Fns[0].Code = code(call(uint32(from)), exit())
				checkBudget(t, fmt.Sprintf("%d calls %d of %d", from, to, size), p, cost+2)
			}
		}
	}
}

// decimal returns functions from 1 on, of which those with the numbers 7, 6, ..
// 3 cost 9, 99, .. 99999, and a call of them 10, 100, .. 100000.
func decimal() []api.Fn {
	l := make([]api.Fn, api.MaxFns)
	for n := range l {
		l[n] = fn(exit())
	}
	var calls []api.Inst
	for n := 7; n >= 3; n-- {
		l[n] = fn(join(calls, times(8, plain()), code(exit()))...)
		calls = append(calls, times(9, call(uint32(n)))...)
	}
	return l[1:]
}

// digits is code that costs a number with these digits, from that of 100000 on.
func digits(l ...int) []api.Inst {
	var c []api.Inst
	for k, n := range l[:len(l)-1] {
		c = append(c, times(n, call(uint32(3+k)))...)
	}
	return join(c, times(l[len(l)-1]-1, plain()), code(exit()))
}

func decimalProgram(main ...api.Inst) api.Prog {
	return program(append([]api.Fn{fn(main...)}, decimal()...)...)
}

// P8.3: a Budget is at most 10^6, also that of a called function.
func TestBudgetIsLimited(t *testing.T) {
	for _, c := range []struct {
		name string
		main []api.Inst
		want int
	}{
		{"few", digits(0, 0, 0, 0, 1, 1), 11},
		{"2000", digits(0, 0, 1, 9, 9, 10), 2000},
		{"2001", digits(0, 0, 1, 9, 9, 11), 2001},
		{"99999", digits(0, 9, 9, 9, 9, 9), 99999},
		{"123456", digits(1, 2, 3, 4, 5, 6), 123456},
		{"999998", digits(9, 9, 9, 9, 9, 8), 999998},
		{"999999", digits(9, 9, 9, 9, 9, 9), 999999},
		{"just the limit", digits(9, 9, 9, 9, 9, 10), million},
		{"one more", digits(9, 9, 9, 9, 9, 11), million},
		{"just the limit, no end", times(10, call(3)), million},
		{"one more, otherwise", digits(10, 0, 0, 0, 0, 1), million},
		{"much more", digits(60, 0, 0, 0, 0, 1), million},
	} {
		p := decimalProgram(c.main...)
		checkBudget(t, c.name, p, c.want)
		p.Fns[1].Code = c.main
		p.Fns[0].Code = code(exit())
		checkBudget(t, c.name+", not called", p, 1)
		p.Fns[0].Code = code(call(1), exit())
		checkBudget(t, c.name+", called", p, min(c.want+2, million))
		p.Fns[0].Code = code(maybe(1), call(1), exit())
		checkBudget(t, c.name+", called in one way", p, min(c.want+3, million))
	}
}

// checkUse checks how many instructions a program executes.
func checkUse(t *testing.T, name string, p api.Prog, budget, used int, err api.Errno) {
	t.Helper()
	checkBudget(t, name, p, budget)
	if got := interp.Run(p, api.Env{}, api.MaxFuel); got.Used != used || got.Err != err {
		t.Errorf("%s: %d instructions and error %d; want %d and %d", name, got.Used, got.Err, used, err)
	}
}

// P8.4: programs that execute all instructions of their Budget, and one more
// for an end without an OpExit.
func TestBudgetIsUsedUp(t *testing.T) {
	two, open := fn(plain(), exit()), fn(plain())
	checkUse(t, "two", program(two), 2, 2, api.OK)
	checkUse(t, "no end", program(open), 1, 2, api.ErrFault)
	checkUse(t, "jump to the end", program(fn(plain(), always(0))), 2, 3, api.ErrFault)
	checkUse(t, "jump beyond the end", program(fn(always(api.MaxOff))), 1, 2, api.ErrFault)
	checkUse(t, "a call", program(fn(call(1), exit()), two), 4, 4, api.OK)
	checkUse(t, "a call at the end", program(fn(call(1)), two), 3, 4, api.ErrFault)
	checkUse(t, "a call, and no end there", program(fn(call(1)), open), 2, 3, api.ErrFault)
	checkUse(t, "a call of the same number", program(fn(call(0), exit())), 2, 1, api.ErrFault)
	checkUse(t, "a call of no function", program(fn(call(1), exit())), 2, 1, api.ErrFault)
	checkUse(t, "a call of a smaller number", program(fn(call(2), exit()), two, fn(call(1), exit())), 4, 2, api.ErrFault)
	twice := program(two, two, two, two, two, two, two, two)
	budget := 2
	for n := 6; n >= 0; n-- {
		twice.Fns[n] = fn(call(uint32(n+1)), call(uint32(n+1)), exit())
		budget = 3 + 2*budget
	}
	checkUse(t, "twice each", twice, budget, budget, api.OK)
	checkUse(t, "all fuel but one", decimalProgram(digits(0, 9, 9, 9, 9, 9)...), 99999, 99999, api.OK)
	checkUse(t, "all fuel", decimalProgram(digits(0, 9, 9, 9, 9, 10)...), 100000, 100000, api.OK)
	checkUse(t, "more than all fuel", decimalProgram(digits(0, 9, 9, 9, 9, 11)...), 100001, 100000, api.ErrLong)
	checkUse(t, "much more", decimalProgram(digits(60, 0, 0, 0, 0, 1)...), million, 100000, api.ErrLong)
}
