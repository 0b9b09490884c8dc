package verify_test

import (
	"fmt"
	"slices"
	"testing"

	"drydock/api"
	"drydock/bounds"
	"drydock/verify"
)

// everything is all registers.
var everything = bools{true, true, true, true, true, true, true, true}

// argsOf are the numbers of arguments of the helpers.
var argsOf = [api.Helps]int{api.HelpGet: 3, api.HelpSet: 4, api.HelpDel: 2, api.HelpHas: 2, api.HelpDraw: 0, api.HelpPush: 2}

// fitting tells which of maps a helper can be applied to.
var fitting = [api.Helps][]bool{
	api.HelpGet:  {true, false, true, true},
	api.HelpSet:  {true, false, true, true},
	api.HelpDel:  {true, false, true, true},
	api.HelpHas:  {true, false, true, true},
	api.HelpDraw: {true, true, true, true},
	api.HelpPush: {false, true, false, false},
}

// numbers are words of which few are those of a map, a helper or a function.
var numbers = []uint32{0, 1, 2, 3, 4, 5, 6, 7, 8, 9, 255, 256, 257, 1 << 16, 1<<16 + 1, 1 << 31, 1<<31 + 1, top - 1, top}

// checkHelp checks what is known behind a helper, or that it is unsafe.
func checkHelp(t *testing.T, n uint32, set bools, r ends, l []api.Schema, safe bool) {
	t.Helper()
	want := after{}
	if safe {
		want = goesOn(behind(shapeOf(set, r)))
	}
	if got := step(t, set, r, help(n), l); got != want {
		t.Errorf("helper %d with %v and %v: %+v; want %+v", n, shapeOf(set, r), l, got, want)
	}
}

// P11.1: the registers of a helper's arguments are set; behind it only register 0
// and those behind register 5 are.
func TestHelpersOfAllSets(t *testing.T) {
	for n, args := range argsOf {
		m := slices.Index(fitting[n], true)
		r := ends{7 + 7i, bounds.Of(uint32(m), uint32(m)), 9 + 99i, 0, all, 5i, 6 + 8i, 7 + 7i}
		for _, set := range subsets() {
			safe := true
			for k := range args {
				safe = safe && set[1+k]
			}
			checkHelp(t, uint32(n), set, r, maps(), safe)
		}
	}
}

// P11.1: register 1 is the number of a map that there is and that fits.
func TestMapsOfHelpers(t *testing.T) {
	for n := range fitting {
		for count := range len(maps()) + 1 {
			for _, m := range numbers {
				r := ends{1: bounds.Of(m, m)}
				safe := n == api.HelpDraw || m < uint32(count) && fitting[n][m]
				checkHelp(t, uint32(n), everything, r, maps()[:count], safe)
			}
		}
	}
}

// P11.1: register 1 is one word alone, even if each of them were the number of a
// map that fits. Only HelpDraw does not look at it.
func TestOneMapAlone(t *testing.T) {
	l := maps()
	l[1] = l[0]
	rings := slices.Repeat(maps()[1:2], 4)
	for n := range fitting {
		for _, b := range []complex128{1i, 3i, 1 + 2i, 2 + 3i, 3 + 4i, all, complex(0, top-1), complex(1, top)} {
			for _, l := range [][]api.Schema{l, rings, nil} {
				checkHelp(t, uint32(n), everything, ends{1: b}, l, n == api.HelpDraw)
			}
		}
		for m := range l {
			r := ends{1: bounds.Of(uint32(m), uint32(m))}
			checkHelp(t, uint32(n), everything, r, l, n != api.HelpPush)
			checkHelp(t, uint32(n), everything, r, rings, n == api.HelpPush || n == api.HelpDraw)
		}
	}
}

// P11.1: of HelpGet and HelpSet, the highest word of register 3 is a field that
// each value has; the others do not look at it.
func TestFieldsOfHelpers(t *testing.T) {
	for n := range fitting {
		for m, s := range maps() {
			for _, high := range append(numbers, uint32(s.Words)-1, uint32(s.Words)) {
				for _, low := range []uint32{0, 1, high} {
					b := bounds.Of(low, high)
					_, highest, _ := bounds.Ends(b)
					r := ends{1: bounds.Of(uint32(m), uint32(m)), 3: b}
					safe := fitting[n][m] && (n != api.HelpGet && n != api.HelpSet || highest < uint32(s.Words))
					checkHelp(t, uint32(n), everything, r, maps(), safe)
				}
			}
		}
	}
}

// P11.1: keys and words are any.
func TestKeysOfHelpers(t *testing.T) {
	for n := range fitting {
		for _, b := range []complex128{0, 15 + 15i, 16 + 16i, all, complex(top, top)} {
			m := slices.Index(fitting[n], true)
			checkHelp(t, uint32(n), everything, ends{1: bounds.Of(uint32(m), uint32(m)), 2: b, 4: b, 5: b}, maps(), true)
		}
	}
}

// P11.1: there are six helpers.
func TestUnknownHelpers(t *testing.T) {
	for _, n := range numbers {
		if n >= api.Helps {
			for _, set := range []bools{{}, {0: true}, {1: true, 2: true}, everything} {
				checkHelp(t, n, set, ends{}, maps(), false)
				checkHelp(t, n, set, ends{1: 1 + 1i}, maps(), false)
				checkHelp(t, n, set, ends{}, nil, false)
			}
		}
	}
}

// P11.1: without maps, HelpDraw alone is safe.
func TestHelpersWithoutMaps(t *testing.T) {
	for n := range uint32(api.Helps) {
		checkHelp(t, n, everything, ends{}, nil, n == api.HelpDraw)
	}
	checkHelp(t, api.HelpDraw, bools{}, ends{}, nil, true)
}

// P11.1: what a helper returns is any word, and what it loses is not set.
func TestBehindHelpers(t *testing.T) {
	for n := range api.Regs {
		p := alone(join(given(everything, spread()), code(help(api.HelpDraw), by(n, mov(0, 0)), exit()))...)
		if n >= 1 && n <= 5 {
			checkError(t, fmt.Sprint(n), p, 0, nil, api.ErrSafe)
			continue
		}
		s, _, e := verify.Shapes(p, 0, nil)
		want := behind(shapeOf(everything, spread()))
		want = with(want, 0, want.R[n])
		if e != api.OK || s[10] != want {
			t.Errorf("%d: %v, %d; want %v", n, s, e, want)
		}
	}
}

// P11.1: the registers of the arguments of a called function are set; behind the
// call only register 0 and those behind register 5 are.
func TestCallsOfAllSets(t *testing.T) {
	for args := range api.MaxArgs + 1 {
		for _, set := range subsets() {
			want := goesOn(behind(shapeOf(set, spread())))
			for k := range args {
				if !set[1+k] {
					want = after{}
				}
			}
			others := []api.Fn{fn(args, five()...), fn(4, five()...)}
			if got := step(t, set, spread(), call(1), maps(), others...); got != want {
				t.Errorf("%d arguments with %v set: %+v; want %+v", args, set, got, want)
			}
			slices.Reverse(others)
			if got := step(t, set, spread(), call(2), maps(), others...); got != want {
				t.Errorf("%d arguments of the second one with %v set: %+v; want %+v", args, set, got, want)
			}
		}
	}
}

// P11.1: a function calls those with greater numbers.
func TestWhichFunctionsAreCalled(t *testing.T) {
	for count := 1; count <= api.MaxFns; count++ {
		for caller := range count {
			for _, n := range numbers {
				p := api.Prog{Fns: slices.Repeat([]api.Fn{fn(0, five()...)}, count)}
				p.Fns[caller].Code = code(call(n), exit())
				name := fmt.Sprint(count, " functions, ", caller, " calls ", n)
				if n > uint32(caller) && n < uint32(count) {
					checkShapes(t, name, p, caller, []api.Shape{{}, with(api.Shape{}, 0, all)}, "11")
					continue
				}
				checkError(t, name, p, caller, maps(), api.ErrSafe)
				checkVerify(t, name, p, maps(), 0, api.ErrSafe)
			}
		}
	}
}

// P11.1: Shapes of a function does not look into those that it calls; Verify does.
func TestCalledFunctionsThatFail(t *testing.T) {
	p := program(fn(0, call(1), exit()), fn(0, failing()...))
	checkShapes(t, "caller", p, 0, []api.Shape{{}, with(api.Shape{}, 0, all)}, "11")
	checkVerify(t, "caller", p, nil, 0, api.ErrSafe)
}

// P11.1: the arguments of a function are any words, whatever its callers have.
func TestArgumentsAreAny(t *testing.T) {
	p := program(fn(0, mov(1, 3), call(1), exit()), fn(1, by(1, context(0, 0)), exit()))
	checkError(t, "called", p, 1, nil, api.ErrSafe)
	checkVerify(t, "called", p, nil, 0, api.ErrSafe)
	p.Fns[1].Code = code(compute(api.Mod, 1, 4), by(1, context(0, 0)), exit())
	checkVerify(t, "called", p, nil, 6, api.OK)
}
