package interp_test

import (
	"fmt"
	"slices"
	"testing"

	"drydock/api"
	"drydock/interp"
)

// P7.1: a function calls those with greater numbers; a smaller one, its own one
// and those beyond the last one fail, in one instruction.
func TestWhichFunctionsAreCalled(t *testing.T) {
	for count := 1; count <= api.MaxFns; count++ {
		for caller := range count {
			numbers := []uint32{uint32(count), uint32(count) + 1, api.MaxFns, 255, 1 << 31, 1<<31 + 1, top}
			for k := range count {
				numbers = append(numbers, uint32(k), 256+uint32(k), 1<<16+uint32(k))
			}
			for _, number := range numbers {
				var p api.Prog
				for k := range count {
					p.Fns = append(p.Fns, fn(0, mov(0, uint32(10*k)), exit()))
				}
				p.Fns[caller].Code = code(call(number), exit())
				want := api.Ran{E: full(), Used: 1, Err: api.ErrFault}
				if number > uint32(caller) && number < uint32(count) {
					want = api.Ran{Ret: 10 * number, E: full(), Used: 4}
				}
				check(t, fmt.Sprint(count, " functions, ", caller, " calls ", number), p, caller, full(), nil, want)
			}
		}
	}
}

// P7.1: which function calls is what counts, not the one that began: function 2
// may not call 1 or itself, though 0 called it.
func TestCallsBackFail(t *testing.T) {
	end := fn(0, mov(0, 1), exit())
	for number := range uint32(3) {
		p := program(fn(0, call(2), exit()), end, fn(0, call(number), exit()), end)
		checkFault(t, fmt.Sprint(number), p, full(), 2)
	}
	p := program(fn(0, call(2), call(1), exit()), end, fn(0, call(3), exit()), end)
	checkRet(t, "forwards", p, full(), 1, 9)
}

// P7.1: the called function has the registers from 1 on as its arguments, in
// order, as many as its Args, and no other register is set, whatever the caller
// has set.
func TestArgumentsOfACall(t *testing.T) {
	all := movs(0, start[:]...)
	for args := range api.MaxArgs + 1 {
		for k := range api.Regs {
			p := program(fn(0, join(all, code(call(1), exit()))...), fn(args, movReg(0, k), exit()))
			if k >= 1 && k <= args {
				checkRet(t, fmt.Sprint(args, " arguments, register ", k), p, full(), start[k], 12)
			} else {
				checkFault(t, fmt.Sprint(args, " arguments, register ", k), p, full(), 10)
			}
		}
	}
}

// P7.1: a register that is not set is no argument, though the function does not
// read it, and though a call ahead took it.
func TestArgumentsThatAreNotSet(t *testing.T) {
	callee := fn(2, mov(0, 9), exit())
	checkFault(t, "first", program(fn(0, mov(2, 1), call(1), exit()), callee), full(), 2)
	checkFault(t, "second", program(fn(0, mov(1, 1), call(1), exit()), callee), full(), 2)
	checkRet(t, "both", program(fn(0, mov(1, 1), mov(2, 1), call(1), exit()), callee), full(), 9, 6)
	checkFault(t, "again", program(fn(0, mov(1, 1), mov(2, 1), call(1), call(1), exit()), callee), full(), 6)
	checkRet(t, "set again", program(fn(0, mov(1, 1), mov(2, 1), call(1), mov(1, 1), mov(2, 2), call(1), exit()), callee), full(), 9, 11)
	p := program(fn(0, mov(1, 1), mov(2, 1), help(api.HelpDraw), call(1), exit()), callee)
	drawn := full()
	drawn.Seed = draw(drawn.Seed)
	check(t, "behind a helper", p, 0, full(), nil, api.Ran{E: drawn, Used: 4, Err: api.ErrFault})
}

// P7.1: the registers of the called function do not reach the caller's, though
// it sets all of them, and register 0 alone is its result.
func TestRegistersOfACall(t *testing.T) {
	inner := movs(0, 50, 51, 52, 53, 54, 55, 56, 57)
	p := program(fn(0, append(movs(0, start[:]...), call(1))...), fn(4, append(inner, exit())...))
	want := [api.Regs]reg{0: {50, true}, 6: {start[6], true}, 7: {start[7], true}}
	if got := registers(t, p, 0, full()); got != want {
		t.Errorf("the registers are %v; want %v", got, want)
	}
	p.Fns[0].Code = code(call(1))
	p.Fns[1].Args = 0
	want = [api.Regs]reg{0: {50, true}}
	if got := registers(t, p, 0, full()); got != want {
		t.Errorf("the registers are %v; want %v", got, want)
	}
}

// P7.1: each frame has a stack of its own, of zeros at first, also the second
// time; the caller's stack stays.
func TestStacksOfCalls(t *testing.T) {
	var inner, outer []api.Inst
	for k := range uint32(api.StackWords) {
		outer = append(outer, mov(3, 100+k), store(3, k))
		inner = append(inner, load(1, k), withReg(compute(api.Or, 0, 0), 1))
	}
	reads := fn(0, join(code(mov(0, 0)), inner, code(exit()))...)
	checkRet(t, "reads", program(fn(0, join(outer, code(call(1), exit()))...), reads), full(), 0, 32+2+34)

	var writes []api.Inst
	for k := range uint32(api.StackWords) {
		writes = append(writes, mov(3, 200+k), store(3, k))
	}
	writer := fn(0, join(code(load(0, 5)), writes, code(exit()))...)
	p := program(fn(0, join(outer, code(call(1)))...), writer)
	var want [api.StackWords]uint32
	for k := range want {
		want[k] = 100 + uint32(k)
	}
	if got := stack(t, p, full()); got != want {
		t.Errorf("the stack is %v; want %v", got, want)
	}
	checkRet(t, "the second time", program(fn(0, call(1), call(1), exit()), writer), full(), 0, 3+2*34)
}

// nested is a chain of as many functions as there may be: each keeps 10 times
// its number in register 6 and its argument on the stack, calls the next one
// with 1 more, and returns the sum of the three.
func nested() api.Prog {
	var p api.Prog
	for k := range uint32(api.MaxFns) {
		head := code(mov(6, 10*k), store(1, 3))
		args := 1
		if k == 0 {
			head, args = code(mov(6, 0), mov(1, 5), store(1, 3)), 0
		}
		next := code(mov(0, 1000))
		if k < api.MaxFns-1 {
			next = code(compute(api.Add, 1, 1), call(k+1))
		}
		tail := code(load(1, 3), withReg(compute(api.Add, 0, 0), 1), withReg(compute(api.Add, 0, 0), 6), exit())
		p.Fns = append(p.Fns, fn(args, join(head, next, tail)...))
	}
	return p
}

// P7.1: calls in calls, as deep as they go: each has its own position,
// registers and stack, and Used counts the instructions of all of them.
func TestCallsInCalls(t *testing.T) {
	sum := uint32(1000)
	for k := range uint32(api.MaxFns) {
		sum += 10*k + 5 + k
	}
	checkRet(t, "nested", nested(), full(), sum, 9+6*8+7)
	for n := 1; n < api.MaxFns; n++ {
		want := uint32(1000)
		for k := n; k < api.MaxFns; k++ {
			want += uint32(10*k + 40 + k - n)
		}
		check(t, fmt.Sprint("from ", n), nested(), n, full(), []uint32{40}, api.Ran{Ret: want, E: full(), Used: 8*(api.MaxFns-1-n) + 7})
	}
}

// P7.1: what fails in a called function fails, with the instructions of both.
func TestCallsThatFail(t *testing.T) {
	for _, c := range []struct {
		name string
		code []api.Inst
		used int
	}{
		{"a register that is not set", code(movReg(0, 1)), 1},
		{"no result", code(mov(1, 5), exit()), 2},
		{"off the end", code(mov(0, 5)), 2},
		{"far off the end", code(mov(0, 5), always(api.MaxOff)), 3},
		{"context", code(context(0, 4), exit()), 1},
		{"stack", code(load(0, 16), exit()), 1},
		{"no helper", code(help(api.Helps), exit()), 1},
		{"no map", code(mov(1, 9), mov(2, 9), help(api.HelpHas), exit()), 3},
		{"no function", code(call(2), exit()), 1},
		{"itself", code(call(1), exit()), 1},
	} {
		p := program(fn(0, mov(0, 7), call(1), mov(0, 3), exit()), fn(0, c.code...))
		checkFault(t, c.name, p, full(), 2+c.used)
	}
}

// P7.1: fuel is for all frames together, and the exit of a frame needs it too:
// with each amount that is too little Used is all of it.
func TestFuelInCalls(t *testing.T) {
	p := program(fn(0, call(1), call(1), exit()), fn(0, call(2), exit()), fn(0, mov(0, 3), exit()))
	checkRet(t, "calls", p, full(), 3, 11)
	for fuel := range 11 {
		checkOne(t, "too little", p, 0, full(), fuel, nil, api.Ran{E: full(), Used: fuel, Err: api.ErrLong})
	}
}

// longest is a program that takes just as many instructions as there may be.
func longest() api.Prog {
	long := append(slices.Repeat(code(mov(0, 4)), api.MaxCode-1), exit())
	return program(
		fn(0, join(slices.Repeat(code(call(1)), 24), code(call(2), call(3), exit()))...), // 24 * 4032 + 1952 + 1279 + 1
		fn(0, append(slices.Repeat(code(call(4)), 62), exit())...),                       // 62 * 65 + 1
		fn(0, append(slices.Repeat(code(call(4)), 30), exit())...),                       // 30 * 65 + 1
		fn(0, join(slices.Repeat(code(call(4)), 19), slices.Repeat(code(mov(0, 8)), 42), code(exit()))...),
		fn(0, long...),
	)
}

// P7.1: with MaxFuel a program takes just as many instructions, and not one
// more; and one without an end in sight is ended.
func TestAsLongAsItMayBe(t *testing.T) {
	e := full()
	checkOne(t, "just enough", longest(), 0, e, api.MaxFuel, nil, api.Ran{Ret: 8, E: e, Used: api.MaxFuel})
	checkOne(t, "one too little", longest(), 0, e, api.MaxFuel-1, nil, api.Ran{E: e, Used: api.MaxFuel - 1, Err: api.ErrLong})
	longer := longest()
	longer.Fns[0].Code = append(code(mov(6, 1)), longer.Fns[0].Code...)
	checkOne(t, "one more", longer, 0, e, api.MaxFuel, nil, api.Ran{E: e, Used: api.MaxFuel, Err: api.ErrLong})
	failing := longest()
	failing.Fns[0].Code[26] = movReg(0, 7)
	checkOne(t, "fails at last", failing, 0, e, api.MaxFuel, nil, api.Ran{E: e, Used: api.MaxFuel, Err: api.ErrFault})

	var endless api.Prog
	for k := range uint32(api.MaxFns - 1) {
		endless.Fns = append(endless.Fns, fn(0, append(slices.Repeat(code(call(k+1)), api.MaxCode-1), exit())...))
	}
	endless.Fns = append(endless.Fns, fn(0, append(slices.Repeat(code(mov(0, 4)), api.MaxCode-1), exit())...))
	for _, fuel := range []int{0, 1, 63, 64, 5000, api.MaxFuel - 1, api.MaxFuel} {
		checkOne(t, "without an end", endless, 0, e, fuel, nil, api.Ran{E: e, Used: fuel, Err: api.ErrLong})
	}
	if got := interp.Run(endless, e, api.MaxFuel+1); got.Err != api.ErrArg {
		t.Errorf("with more fuel it is %d", got.Err)
	}
}
