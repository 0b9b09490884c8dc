package interp_test

import (
	"fmt"
	"math"
	"slices"
	"testing"

	"drydock/api"
	"drydock/interp"
)

const top = math.MaxUint32 // the greatest word

// The instructions, with a number or with a register as their operand.

func mov(dst int, v uint32) api.Inst { return api.Inst{Op: api.OpAlu, Fn: api.Mov, Dst: dst, Imm: v} }

func movReg(dst, src int) api.Inst { return withReg(mov(dst, 0), src) }

func compute(fn, dst int, v uint32) api.Inst {
	return api.Inst{Op: api.OpAlu, Fn: fn, Dst: dst, Imm: v}
}

func jump(fn, dst int, v uint32, off int) api.Inst {
	return api.Inst{Op: api.OpJump, Fn: fn, Dst: dst, Imm: v, Off: off}
}

func always(off int) api.Inst { return jump(api.Always, 0, 0, off) }

func context(dst int, at uint32) api.Inst { return api.Inst{Op: api.OpCtx, Dst: dst, Imm: at} }

func load(dst int, at uint32) api.Inst { return api.Inst{Op: api.OpLoad, Dst: dst, Imm: at} }

func store(dst int, at uint32) api.Inst { return api.Inst{Op: api.OpStore, Dst: dst, Imm: at} }

func help(n uint32) api.Inst { return api.Inst{Op: api.OpHelp, Imm: n} }

func call(fn uint32) api.Inst { return api.Inst{Op: api.OpCall, Imm: fn} }

func exit() api.Inst { return api.Inst{Op: api.OpExit} }

// withReg returns i with a register as its operand.
func withReg(i api.Inst, src int) api.Inst {
	i.Reg, i.Src, i.Imm = true, src, 0
	return i
}

// movs set the registers from the given one on to words.
func movs(from int, words ...uint32) []api.Inst {
	var l []api.Inst
	for k, v := range words {
		l = append(l, mov(from+k, v))
	}
	return l
}

// join lays code behind each other, without room behind it: what is appended to
// it twice is apart.
func join(parts ...[]api.Inst) []api.Inst { return slices.Clip(slices.Concat(parts...)) }

func code(l ...api.Inst) []api.Inst { return l }

func fn(args int, l ...api.Inst) api.Fn { return api.Fn{Args: args, Code: l} }

func program(l ...api.Fn) api.Prog { return api.Prog{Fns: l} }

// alone is a program with one function.
func alone(l ...api.Inst) api.Prog { return program(fn(0, l...)) }

func entry(key uint32, v ...uint32) api.Entry { return api.Entry{Key: key, V: v} }

// filled returns a table with a value of its own for each of the keys.
func filled(kind, room, words int, keys ...uint32) api.Table {
	t := api.Table{S: api.Schema{Kind: kind, Cap: room, Words: words, Ver: 3}}
	for _, key := range keys {
		v := make([]uint32, words)
		for field := range v {
			v[field] = word(key, uint32(field))
		}
		t.E = append(t.E, api.Entry{Key: key, V: v})
	}
	return t
}

// word is what filled tables hold.
func word(key, field uint32) uint32 { return 100*(key%1000003) + field + 7 }

func ring(room int, next uint32, keys ...uint32) api.Table {
	t := filled(api.Ring, room, 1, keys...)
	t.Next = next
	return t
}

func env(l ...api.Table) api.Env {
	return api.Env{Ctx: [api.CtxWords]uint32{11, 12, 13, 14}, T: l, Seed: 99}
}

// The places of the maps in full.
const (
	atArray = iota
	atHash
	atLru
	atRing
)

// full is an environment with a map of each kind, none of them full.
func full() api.Env {
	return env(
		filled(api.Array, 3, 2, 0, 1, 2),
		filled(api.Hash, 4, 3, 5, 0, top),
		filled(api.Lru, 4, 2, 8, 0, 9),
		ring(3, 1, top, 0),
	)
}

// deep returns a copy of e that shares nothing with it.
func deep(e api.Env) api.Env {
	f := e
	f.T = nil
	for _, t := range e.T {
		u := t
		u.E = nil
		for _, x := range t.E {
			u.E = append(u.E, api.Entry{Key: x.Key, V: append([]uint32(nil), x.V...)})
		}
		f.T = append(f.T, u)
	}
	return f
}

// equal compares environments part by part; empty lists may be nil or not.
func equal(e, f api.Env) bool {
	return e.Ctx == f.Ctx && e.Seed == f.Seed && slices.EqualFunc(e.T, f.T, func(t, u api.Table) bool {
		return t.S == u.S && t.Next == u.Next && slices.EqualFunc(t.E, u.E, func(a, b api.Entry) bool {
			return a.Key == b.Key && slices.Equal(a.V, b.V)
		})
	})
}

func equalRan(a, b api.Ran) bool {
	return a.Ret == b.Ret && a.Used == b.Used && a.Err == b.Err && equal(a.E, b.E)
}

// tell is what a test says of a result: the environment only if it is not the
// one that is wanted, since it is long.
func tell(got, want api.Ran) string {
	s := fmt.Sprintf("%d, %d used, error %d; want %d, %d used, error %d", got.Ret, got.Used, got.Err, want.Ret, want.Used, want.Err)
	if equal(got.E, want.E) {
		return s
	}
	return s + fmt.Sprintf("; it leaves %+v; want %+v", got.E, want.E)
}

// checkOne checks what one call returns. It hands over a copy of e, so that
// want may share memory with e.
func checkOne(t *testing.T, name string, p api.Prog, n int, e api.Env, fuel int, a []uint32, want api.Ran) {
	t.Helper()
	if got := interp.Call(p, n, deep(e), fuel, a...); !equalRan(got, want) {
		t.Errorf("%s: Call(.., %d, .., %d, %v) is %s", name, n, fuel, a, tell(got, want))
	}
	if n != 0 || len(a) > 0 {
		return
	}
	if got := interp.Run(p, deep(e), fuel); !equalRan(got, want) {
		t.Errorf("%s: Run with fuel %d is %s", name, fuel, tell(got, want))
	}
}

// check checks a call that ends without ErrLong if there is fuel enough: with
// each greater amount it returns the same, also with the greatest one, and with
// less it is ErrLong when the fuel is used up.
func check(t *testing.T, name string, p api.Prog, n int, e api.Env, a []uint32, want api.Ran) {
	t.Helper()
	for _, fuel := range []int{want.Used, want.Used + 1, want.Used + 2, api.MaxFuel - 1, api.MaxFuel} {
		checkOne(t, name, p, n, e, fuel, a, want)
	}
	for fuel := range want.Used {
		got := interp.Call(p, n, deep(e), fuel, a...)
		if got.Err != api.ErrLong || got.Used != fuel || got.Ret != 0 {
			t.Errorf("%s: Call(.., %d, .., %d, %v) is %s", name, n, fuel, a, tell(got, api.Ran{E: got.E, Used: fuel, Err: api.ErrLong}))
		}
	}
}

// checkRet checks that function 0 of p returns ret and leaves e as it is.
func checkRet(t *testing.T, name string, p api.Prog, e api.Env, ret uint32, used int) {
	t.Helper()
	check(t, name, p, 0, e, nil, api.Ran{Ret: ret, E: e, Used: used})
}

// checkFault checks that function 0 of p fails and leaves e as it is.
func checkFault(t *testing.T, name string, p api.Prog, e api.Env, used int) {
	t.Helper()
	check(t, name, p, 0, e, nil, api.Ran{E: e, Used: used, Err: api.ErrFault})
}

// reg is what a register holds, and whether it is set.
type reg struct {
	v   uint32
	set bool
}

// registers tells what the registers are behind the code of function n of p:
// each of them is asked by code laid behind it.
func registers(t *testing.T, p api.Prog, n int, e api.Env, a ...uint32) [api.Regs]reg {
	t.Helper()
	var l [api.Regs]reg
	for k := range l {
		q := program(slices.Clone(p.Fns)...)
		q.Fns[n].Code = join(q.Fns[n].Code, code(movReg(0, k), exit()))
		got := interp.Call(q, n, deep(e), api.MaxFuel, a...)
		if got.Err != api.OK && got.Err != api.ErrFault {
			t.Fatalf("Call(%+v, %d) is %d", q, n, got.Err)
		}
		l[k] = reg{got.Ret, got.Err == api.OK}
	}
	return l
}

// stack tells what the words of the stack are behind the code of function 0.
func stack(t *testing.T, p api.Prog, e api.Env) [api.StackWords]uint32 {
	t.Helper()
	var l [api.StackWords]uint32
	for k := range l {
		q := program(slices.Clone(p.Fns)...)
		q.Fns[0].Code = join(q.Fns[0].Code, code(load(0, uint32(k)), exit()))
		got := interp.Run(q, deep(e), api.MaxFuel)
		if got.Err != api.OK {
			t.Fatalf("Run(%+v) is %d", q, got.Err)
		}
		l[k] = got.Ret
	}
	return l
}

// The chapter's example.
func TestExample(t *testing.T) {
	got := interp.Run(alone(mov(0, 5), exit()), api.Env{}, 2)
	if !equalRan(got, api.Ran{Ret: 5, Used: 2}) {
		t.Errorf("%+v", got)
	}
}

// badPrograms are programs that are not valid, in one thing each.
func badPrograms() []api.Prog {
	end := exit()
	many := api.Prog{}
	for range api.MaxFns + 1 {
		many.Fns = append(many.Fns, fn(0, mov(0, 1), end))
	}
	l := []api.Prog{
		{},
		{Fns: []api.Fn{}},
		many,
		program(fn(0)),
		program(fn(0, mov(0, 1), end), fn(0)),
		program(fn(0, slices.Repeat(code(end), api.MaxCode+1)...)),
		program(fn(0, mov(0, 1), end), fn(0, slices.Repeat(code(end), api.MaxCode+1)...)),
		program(fn(1, mov(0, 1), end)),
		program(fn(-1, mov(0, 1), end)),
		program(fn(0, mov(0, 1), end), fn(api.MaxArgs+1, end)),
		program(fn(0, mov(0, 1), end), fn(-1, end)),
	}
	for _, i := range []api.Inst{
		{Op: -1}, {Op: api.Ops}, {Op: math.MaxInt}, {Fn: api.Alus}, {Fn: -1}, {Dst: -1}, {Dst: api.Regs},
		{Reg: true, Src: api.Regs}, {Reg: true, Src: -1}, {Src: 1}, {Reg: true, Imm: 1}, {Off: 1},
		{Op: api.OpJump, Fn: api.Conds}, {Op: api.OpJump, Off: -1}, {Op: api.OpJump, Off: api.MaxOff + 1},
		{Op: api.OpJump, Imm: 1}, {Op: api.OpLoad, Fn: 1}, {Op: api.OpHelp, Dst: 1}, {Op: api.OpExit, Imm: 1},
	} {
		l = append(l, alone(i), alone(mov(0, 1), end, i), program(fn(0, mov(0, 1), end), fn(0, end, i)))
	}
	return l
}

// badFuels are amounts of fuel that no call may be given.
func badFuels() []int {
	return []int{-1, -2, math.MinInt32, math.MinInt, api.MaxFuel + 1, api.MaxFuel + 2, 1 << 32, 1<<32 + 5, math.MaxInt}
}

// P7.1, R4: a program that is not valid is ErrArg, beside e, 0 and 0 used.
func TestProgramsThatAreNotValid(t *testing.T) {
	want := api.Ran{E: full(), Err: api.ErrArg}
	for k, p := range badPrograms() {
		for _, fuel := range []int{0, 1, 50, api.MaxFuel} {
			checkOne(t, fmt.Sprint(k), p, 0, full(), fuel, nil, want)
		}
	}
}

// P7.1, R4: fuel outside its range is ErrArg, beside e, 0 and 0 used; at its
// ends it is not.
func TestFuel(t *testing.T) {
	p, e := alone(mov(0, 5), exit()), full()
	for _, fuel := range badFuels() {
		checkOne(t, "outside", p, 0, e, fuel, nil, api.Ran{E: e, Err: api.ErrArg})
	}
	checkOne(t, "none", p, 0, e, 0, nil, api.Ran{E: e, Err: api.ErrLong})
	checkOne(t, "one too little", p, 0, e, 1, nil, api.Ran{E: e, Used: 1, Err: api.ErrLong})
	for _, fuel := range []int{2, 3, api.MaxFuel - 1, api.MaxFuel} {
		checkOne(t, "enough", p, 0, e, fuel, nil, api.Ran{Ret: 5, E: e, Used: 2})
	}
}

// outside are numbers of no function of a program with count functions.
func outside(count int) []int {
	return []int{-1, -2, -count, math.MinInt32, math.MinInt, count, count + 1, 255, 256, 1 << 32, 1<<32 + 1, math.MaxInt}
}

// P7.1, R4: a function that there is not is ErrNone, beside e, 0 and 0 used.
func TestNoFunction(t *testing.T) {
	p, e := api.Prog{}, full()
	for count := 1; count <= api.MaxFns; count++ {
		p.Fns = append(p.Fns, fn(0, mov(0, uint32(count)), exit()))
		for _, n := range outside(count) {
			for _, fuel := range []int{0, 1, api.MaxFuel} {
				checkOne(t, "outside", p, n, e, fuel, nil, api.Ran{E: e, Err: api.ErrNone})
				checkOne(t, "outside, with a word", p, n, e, fuel, []uint32{1}, api.Ran{E: e, Err: api.ErrNone})
			}
		}
		for n := range count {
			check(t, "inside", p, n, e, nil, api.Ran{Ret: uint32(n) + 1, E: e, Used: 2})
		}
	}
}

// someArgs is a program whose functions have 0, 0, 1, 2, 3 and 4 arguments.
func someArgs() api.Prog {
	p := alone(mov(0, 7), exit())
	for args := range api.MaxArgs + 1 {
		p.Fns = append(p.Fns, fn(args, mov(0, 7), exit()))
	}
	return p
}

// P7.1, R4: any other number of arguments than the function's is ErrNone,
// beside e, 0 and 0 used.
func TestNumberOfArguments(t *testing.T) {
	p, e := someArgs(), full()
	for n, f := range p.Fns {
		for count := range 2*api.MaxArgs + 2 {
			a := make([]uint32, count)
			if count == f.Args {
				check(t, "right", p, n, e, a, api.Ran{Ret: 7, E: e, Used: 2})
				continue
			}
			for _, fuel := range []int{0, 1, 50, api.MaxFuel} {
				checkOne(t, "wrong", p, n, e, fuel, a, api.Ran{E: e, Err: api.ErrNone})
			}
		}
		checkOne(t, "very many", p, n, e, 9, make([]uint32, 300), api.Ran{E: e, Err: api.ErrNone})
	}
}

// R2: ErrArg comes ahead of ErrNone, and both ahead of ErrLong and ErrFault.
func TestSeveralErrors(t *testing.T) {
	e := full()
	wrong := [][]uint32{nil, {1}, {1, 2, 3, 4, 5}}
	for _, n := range []int{-1, 0, 1, 2, 3, 9, math.MinInt, math.MaxInt} {
		for _, a := range wrong {
			for _, fuel := range badFuels() {
				checkOne(t, "fuel", someArgs(), n, e, fuel, a, api.Ran{E: e, Err: api.ErrArg})
			}
			for _, p := range badPrograms() {
				checkOne(t, "program", p, n, e, 9, a, api.Ran{E: e, Err: api.ErrArg})
				checkOne(t, "program and fuel", p, n, e, -1, a, api.Ran{E: e, Err: api.ErrArg})
			}
		}
	}
	failing := program(fn(0, exit()), fn(1, exit()))
	for _, fuel := range []int{0, 1, 2} {
		checkOne(t, "no function", failing, 2, e, fuel, nil, api.Ran{E: e, Err: api.ErrNone})
		checkOne(t, "no argument", failing, 1, e, fuel, nil, api.Ran{E: e, Err: api.ErrNone})
	}
	checkOne(t, "no fuel to fail", failing, 0, e, 0, nil, api.Ran{E: e, Err: api.ErrLong})
	checkOne(t, "fails with the last fuel", failing, 0, e, 1, nil, api.Ran{E: e, Used: 1, Err: api.ErrFault})
}

// R1: environments that are not valid come back as they are.
func TestAnyEnvironment(t *testing.T) {
	for _, e := range []api.Env{
		{},
		{T: []api.Table{}},
		{T: make([]api.Table, 20)},
		env(api.Table{S: api.Schema{Kind: -1}, E: []api.Entry{{}, entry(3), entry(3, 1, 2, 3, 4, 5, 6)}, Next: 4}),
	} {
		checkRet(t, "any", alone(mov(0, 5), exit()), e, 5, 2)
		checkFault(t, "any", alone(exit()), e, 1)
		checkOne(t, "any", api.Prog{}, 0, e, 5, nil, api.Ran{E: e, Err: api.ErrArg})
		checkOne(t, "any", alone(exit()), 1, e, 5, nil, api.Ran{E: e, Err: api.ErrNone})
		checkOne(t, "any", alone(exit()), 0, e, 0, nil, api.Ran{E: e, Err: api.ErrLong})
	}
}

// P7.1: the arguments are in the registers from 1 on, and all other registers
// are not set.
func TestArgumentsAreInRegisters(t *testing.T) {
	a := []uint32{top, 0, 21, 1 << 31}
	for args := range api.MaxArgs + 1 {
		p := program(fn(0, exit()), fn(args))
		var want [api.Regs]reg
		for k := range args {
			want[k+1] = reg{a[k], true}
		}
		if got := registers(t, p, 1, full(), a[:args]...); got != want {
			t.Errorf("with %v the registers are %v", a[:args], got)
		}
	}
	if got := registers(t, alone(), 0, full()); got != [api.Regs]reg{} {
		t.Errorf("the registers are %v", got)
	}
}

// P7.2: Run is Call of function 0, whatever the others are.
func TestRun(t *testing.T) {
	e := full()
	p := program(fn(0, mov(0, 5), help(api.HelpDraw), exit()), fn(0, mov(0, 6), exit()))
	for fuel := -1; fuel < 6; fuel++ {
		if got, want := interp.Run(p, e, fuel), interp.Call(p, 0, e, fuel); !equalRan(got, want) {
			t.Errorf("Run with fuel %d is %+v; Call is %+v", fuel, got, want)
		}
	}
}
