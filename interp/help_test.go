package interp_test

import (
	"fmt"
	"testing"

	"drydock/api"
	"drydock/helper"
	"drydock/interp"
	"drydock/table"
)

// asked is a call of a helper.
type asked struct {
	n uint32
	a []uint32
}

// calling is code that calls the helpers, one after the other.
func calling(l ...asked) []api.Inst {
	var c []api.Inst
	for _, x := range l {
		c = join(c, movs(1, x.a...), code(help(x.n)))
	}
	return c
}

// made returns e with the effects of the helpers' calls.
func made(t *testing.T, e api.Env, l ...asked) (api.Env, uint32) {
	t.Helper()
	var v uint32
	for _, x := range l {
		next, w, err := helper.Call(int(x.n), e, x.a...)
		if err != api.OK {
			t.Fatalf("helper %d with %v is %d", x.n, x.a, err)
		}
		e, v = next, w
	}
	return e, v
}

// good are calls of helpers that are done in full, of all helpers, with and
// without a change, and such whose word is an error's number.
func good() []asked {
	return []asked{
		{api.HelpGet, []uint32{atArray, 1, 1}},
		{api.HelpGet, []uint32{atLru, 8, 1}},
		{api.HelpGet, []uint32{atLru, 3, 1}},
		{api.HelpSet, []uint32{atArray, 2, 0, top}},
		{api.HelpSet, []uint32{atArray, 3, 0, 4}},
		{api.HelpSet, []uint32{atHash, 6, 2, 9}},
		{api.HelpSet, []uint32{atLru, 0, 1, 0}},
		{api.HelpDel, []uint32{atArray, 0}},
		{api.HelpDel, []uint32{atHash, top}},
		{api.HelpDel, []uint32{atHash, 1}},
		{api.HelpHas, []uint32{atLru, 8}},
		{api.HelpHas, []uint32{atLru, 7}},
		{api.HelpDraw, nil},
		{api.HelpPush, []uint32{atRing, 6}},
	}
}

// P7.1: a helper's word is register 0, and its environment the one that the
// next call works on, and that is left at the end; also with each two calls
// one after the other.
func TestHelpers(t *testing.T) {
	for _, one := range good() {
		for _, two := range good() {
			l := calling(one, two)
			e, v := made(t, full(), one, two)
			want := api.Ran{Ret: v, E: e, Used: len(l) + 1}
			check(t, fmt.Sprint(one, two), alone(append(l, exit())...), 0, full(), nil, want)
		}
	}
	e, v := made(t, full(), good()...)
	l := calling(good()...)
	check(t, "all", alone(append(l, exit())...), 0, full(), nil, api.Ran{Ret: v, E: e, Used: len(l) + 1})
}

// P7.1: an error that a helper tells as its word is no failure.
func TestErrorsAsWords(t *testing.T) {
	e := env(filled(api.Hash, 1, 1, 4), filled(api.Array, 1, 1, 0), ring(1, 1, 0))
	for _, c := range []struct {
		x    asked
		want api.Errno
	}{
		{asked{api.HelpSet, []uint32{0, 5, 0, 6}}, api.ErrFull},
		{asked{api.HelpSet, []uint32{1, 5, 0, 6}}, api.ErrNone},
		{asked{api.HelpPush, []uint32{2, 6}}, api.ErrFull},
	} {
		l := calling(c.x)
		checkRet(t, fmt.Sprint(c.x), alone(append(l, exit())...), e, uint32(c.want), len(l)+1)
	}
}

// P7.1: a helper that does not exist fails, whichever registers are set, and
// leaves the environment as it was ahead of it.
func TestHelpersThatDoNotExist(t *testing.T) {
	numbers := []uint32{api.Helps, api.Helps + 1, 255, 1 << 31, top - 1, top}
	for n := range uint32(api.Helps) {
		numbers = append(numbers, n+256, n+1<<16, n+1<<31)
	}
	for _, n := range numbers {
		name := fmt.Sprint("helper ", n)
		checkFault(t, name, alone(help(n), exit()), full(), 1)
		checkFault(t, name, alone(append(movs(0, 0, 1, 0, 0, 0, 0, 0, 0), help(n), exit())...), full(), 9)
		for _, x := range good() {
			e, _ := made(t, full(), x)
			l := calling(x)
			p := alone(append(l, help(n), exit())...)
			check(t, name, p, 0, full(), nil, api.Ran{E: e, Used: len(l) + 1, Err: api.ErrFault})
		}
	}
}

// failing are calls for which a helper returns an error.
func failing() []asked {
	return []asked{
		{api.HelpGet, []uint32{5, 0, 0}},
		{api.HelpGet, []uint32{top, 0, 0}},
		{api.HelpGet, []uint32{atRing, 0, 0}},
		{api.HelpGet, []uint32{atHash, 5, 3}},
		{api.HelpGet, []uint32{atLru, 8, top}},
		{api.HelpSet, []uint32{5, 0, 0, 1}},
		{api.HelpSet, []uint32{atRing, 0, 0, 1}},
		{api.HelpSet, []uint32{atArray, 0, 2, 1}},
		{api.HelpDel, []uint32{256, 0}},
		{api.HelpDel, []uint32{atRing, 0}},
		{api.HelpHas, []uint32{5, 0}},
		{api.HelpHas, []uint32{atRing, 0}},
		{api.HelpPush, []uint32{5, 0}},
		{api.HelpPush, []uint32{atHash, 0}},
		{api.HelpHas, []uint32{4, 0}}, // no valid table
	}
}

// P7.1: a helper that returns an error fails, and leaves the environment as it
// was ahead of it, with the effects of the calls before.
func TestHelpersThatFail(t *testing.T) {
	e := full()
	e.T = append(e.T, filled(api.Hash, 1, 1, 0, 1))
	for _, bad := range failing() {
		l := calling(bad)
		checkFault(t, fmt.Sprint(bad), alone(append(l, mov(0, 1), exit())...), e, len(l))
		for _, x := range good() {
			after, _ := made(t, e, x)
			l := calling(x, bad)
			p := alone(append(l, mov(0, 1), exit())...)
			check(t, fmt.Sprint(x, bad), p, 0, e, nil, api.Ran{E: after, Used: len(l), Err: api.ErrFault})
		}
	}
}

// P7.1: E has the effects of what was executed, and of no more: at each amount
// of fuel, and where another instruction fails.
func TestEnvironmentAtTheEnd(t *testing.T) {
	l := calling(good()...)
	e, done := full(), 0
	var states []api.Env
	for fuel := range len(l) + 1 {
		states = append(states, e)
		checkOne(t, "ErrLong", alone(append(l, exit())...), 0, full(), fuel, nil, api.Ran{E: e, Used: fuel, Err: api.ErrLong})
		if fuel < len(l) && l[fuel].Op == api.OpHelp {
			e, _ = made(t, e, good()[done])
			done++
		}
	}
	for size, e := range states {
		fails := append(join(l[:size]), load(0, 16))
		check(t, "ErrFault", alone(fails...), 0, full(), nil, api.Ran{E: e, Used: size + 1, Err: api.ErrFault})
		p := program(fn(0, call(1), exit()), fn(0, fails...))
		check(t, "ErrFault in a call", p, 0, full(), nil, api.Ran{E: e, Used: size + 2, Err: api.ErrFault})
	}
}

// P7.1: there is one environment for all frames: what a called function does to
// it the caller finds, and the other way round.
func TestEnvironmentOfCalls(t *testing.T) {
	set := calling(asked{api.HelpSet, []uint32{atHash, 6, 1, 44}})
	get := calling(asked{api.HelpGet, []uint32{atHash, 6, 1}})
	e, _ := made(t, full(), asked{api.HelpSet, []uint32{atHash, 6, 1, 44}})
	p := program(fn(0, join(code(call(1)), get, code(exit()))...), fn(0, append(set, exit())...))
	check(t, "set in the call", p, 0, full(), nil, api.Ran{Ret: 44, E: e, Used: 1 + 6 + 5})
	p = program(fn(0, join(set, code(call(1), exit()))...), fn(0, append(get, exit())...))
	check(t, "get in the call", p, 0, full(), nil, api.Ran{Ret: 44, E: e, Used: 5 + 2 + 5})
	p = program(fn(0, help(api.HelpDraw), call(1), help(api.HelpDraw), exit()), fn(0, help(api.HelpDraw), exit()))
	e = full()
	e.Seed = draw(draw(draw(e.Seed)))
	check(t, "draws", p, 0, full(), nil, api.Ran{Ret: e.Seed, E: e, Used: 6})
}

// P7.1: the context is that of e in each frame, and helpers keep it.
func TestContextOfCalls(t *testing.T) {
	p := program(
		fn(0, help(api.HelpDraw), call(1), movReg(6, 0), context(0, 1), withReg(compute(api.Mul, 0, 0), 6), exit()),
		fn(0, context(0, 3), exit()))
	e := full()
	after := e
	after.Seed = draw(e.Seed)
	check(t, "context", p, 0, e, nil, api.Ran{Ret: e.Ctx[1] * e.Ctx[3], E: after, Used: 8})
}

// P7.3: the tables keep their schemas, valid or not, and so does their number;
// valid tables remain valid.
func TestTablesKeepTheirSchemas(t *testing.T) {
	bad := filled(api.Hash, 1, 1, 0, 1)
	odd := api.Table{S: api.Schema{Kind: 9, Cap: -1, Words: 7, Ver: 5000}}
	for _, x := range append(good(), failing()...) {
		e := full()
		e.T = append(e.T, bad, odd)
		got := interp.Run(alone(append(calling(good()[5], x), exit())...), e, 50)
		if len(got.E.T) != len(e.T) {
			t.Fatalf("%v: there are %d tables", x, len(got.E.T))
		}
		for at, u := range got.E.T {
			if u.S != e.T[at].S || table.May(u) != table.May(e.T[at]) {
				t.Errorf("%v: table %d became %+v", x, at, u)
			}
		}
	}
}
