package interp_test

import (
	"fmt"
	"slices"
	"testing"

	"drydock/alu"
	"drydock/api"
)

// start is what the registers are set to where each of them shall have another
// word: a map, a key and a field for the helpers, and small enough to be an
// index of the stack.
var start = [api.Regs]uint32{6, 1, 5, 2, 7, 4, 3, 0}

// kind is an instruction, and what it does to registers that are as start says.
type kind struct {
	name  string
	i     api.Inst
	e     api.Env
	reads []int            // the registers that must be set
	puts  map[int]uint32   // those that have words then
	loses []int            // those that are not set then
	made  func(e *api.Env) // what it does to the environment
}

// callee is function 1 of the programs of TestRegisters: it returns 77 in three
// instructions, with registers and a stack of its own.
func callee(args int) api.Fn { return fn(args, mov(0, 77), store(0, 0), exit()) }

// wordCases are instructions that read no more than Dst and the operand.
func wordCases() []kind {
	e := full()
	var l []kind
	for n := range api.Alus {
		number, _ := alu.Do(n, start[4], 5)
		other, _ := alu.Do(n, start[4], start[2])
		same, _ := alu.Do(n, start[4], start[4])
		name := fmt.Sprint("compute ", n)
		own := []int{4}
		if n == api.Mov {
			own = nil
		}
		l = append(l,
			kind{name: name, i: compute(n, 4, 5), e: e, reads: own, puts: map[int]uint32{4: number}},
			kind{name: name + ", register", i: withReg(compute(n, 4, 0), 2), e: e, reads: append([]int{2}, own...), puts: map[int]uint32{4: other}},
			kind{name: name + ", itself", i: withReg(compute(n, 4, 0), 4), e: e, reads: []int{4}, puts: map[int]uint32{4: same}})
	}
	for n := range api.Conds {
		name := fmt.Sprint("jump ", n)
		if n == api.Always {
			l = append(l, kind{name: name, i: always(0), e: e})
			continue
		}
		l = append(l,
			kind{name: name, i: jump(n, 4, 5, 0), e: e, reads: []int{4}},
			kind{name: name + ", register", i: withReg(jump(n, 4, 0, 0), 2), e: e, reads: []int{2, 4}},
			kind{name: name + ", itself", i: withReg(jump(n, 0, 0, 0), 0), e: e, reads: []int{0}})
	}
	return append(l,
		kind{name: "context", i: context(4, 3), e: e, puts: map[int]uint32{4: e.Ctx[3]}},
		kind{name: "context, register", i: withReg(context(4, 0), 3), e: e, reads: []int{3}, puts: map[int]uint32{4: e.Ctx[2]}},
		kind{name: "context, itself", i: withReg(context(1, 0), 1), e: e, reads: []int{1}, puts: map[int]uint32{1: e.Ctx[1]}},
		kind{name: "load", i: load(4, 3), e: e, puts: map[int]uint32{4: 0}},
		kind{name: "load, register", i: withReg(load(4, 0), 2), e: e, reads: []int{2}, puts: map[int]uint32{4: 0}},
		kind{name: "load, itself", i: withReg(load(4, 0), 4), e: e, reads: []int{4}, puts: map[int]uint32{4: 0}},
		kind{name: "store", i: store(4, 3), e: e, reads: []int{4}},
		kind{name: "store, register", i: withReg(store(4, 0), 2), e: e, reads: []int{2, 4}},
		kind{name: "store, itself", i: withReg(store(4, 0), 4), e: e, reads: []int{4}})
}

// lost are the registers that are not set behind a call.
var lost = []int{1, 2, 3, 4, 5}

// callCases are calls of each helper, and of functions with each number of
// arguments.
func callCases() []kind {
	e := full()
	queue := env(e.T[atArray], ring(3, 0))
	l := []kind{
		{name: "get", i: help(api.HelpGet), e: e, reads: []int{1, 2, 3}, puts: map[int]uint32{0: word(5, 2)}, loses: lost},
		{name: "set", i: help(api.HelpSet), e: e, reads: []int{1, 2, 3, 4}, puts: map[int]uint32{0: 0}, loses: lost, made: func(e *api.Env) { e.T[1].E[0].V[2] = start[4] }},
		{name: "del", i: help(api.HelpDel), e: e, reads: []int{1, 2}, puts: map[int]uint32{0: 1}, loses: lost, made: func(e *api.Env) { e.T[1].E = e.T[1].E[1:] }},
		{name: "has", i: help(api.HelpHas), e: e, reads: []int{1, 2}, puts: map[int]uint32{0: 1}, loses: lost},
		{name: "draw", i: help(api.HelpDraw), e: e, puts: map[int]uint32{0: draw(99)}, loses: lost, made: func(e *api.Env) { e.Seed = draw(99) }},
		{name: "push", i: help(api.HelpPush), e: queue, reads: []int{1, 2}, puts: map[int]uint32{0: 0}, loses: lost, made: func(e *api.Env) {
			e.T[1].E, e.T[1].Next = []api.Entry{entry(0, start[2])}, 1
		}},
	}
	for args := range api.MaxArgs + 1 {
		l = append(l, kind{name: "call", i: call(1), e: e, reads: []int{1, 2, 3, 4}[:args], puts: map[int]uint32{0: 77}, loses: lost})
	}
	return l
}

func draw(seed uint32) uint32 { return 1664525*seed + 1013904223 }

// P7.1: each kind of instruction, with each set of registers that are set and
// others that are not: it fails if one that it reads is not set, and changes
// just those registers that the chapter names.
func TestRegisters(t *testing.T) {
	for _, c := range append(wordCases(), callCases()...) {
		for subset := range 1 << api.Regs {
			var set [api.Regs]reg
			var ahead []api.Inst
			for k, v := range start {
				if subset>>k&1 == 1 {
					set[k] = reg{v, true}
					ahead = append(ahead, mov(k, v))
				}
			}
			checkKind(t, c, set, ahead)
		}
	}
}

func checkKind(t *testing.T, c kind, set [api.Regs]reg, ahead []api.Inst) {
	t.Helper()
	name := fmt.Sprint(c.name, " with ", set)
	used, last := len(ahead)+1, mov(0, 1)
	if c.i.Op == api.OpCall {
		used += 3
	}
	p := program(fn(0, join(ahead, code(c.i, last, exit()))...), callee(len(c.reads)))
	for _, k := range c.reads {
		if !set[k].set {
			checkFault(t, name, p, c.e, len(ahead)+1)
			return
		}
	}
	after := deep(c.e)
	if c.made != nil {
		c.made(&after)
	}
	check(t, name, p, 0, c.e, nil, api.Ran{Ret: 1, E: after, Used: used + 2})
	want := set
	for _, k := range c.loses {
		want[k] = reg{}
	}
	for k, v := range c.puts {
		want[k] = reg{v, true}
	}
	p.Fns[0].Code = join(ahead, code(c.i))
	if got := registers(t, p, 0, c.e); got != want {
		t.Errorf("%s: the registers are %v; want %v", name, got, want)
	}
}

// P7.1: OpExit reads register 0 alone, whichever others are set.
func TestExit(t *testing.T) {
	for subset := range 1 << api.Regs {
		var l []api.Inst
		for k, v := range start {
			if subset>>k&1 == 1 {
				l = append(l, mov(k, v))
			}
		}
		p := alone(append(l, exit())...)
		if subset&1 == 1 {
			checkRet(t, "set", p, full(), start[0], len(l)+1)
		} else {
			checkFault(t, "not set", p, full(), len(l)+1)
		}
	}
}

// someWords are words at the ends, and next to powers of 2.
func someWords() []uint32 {
	return []uint32{0, 1, 2, 3, 31, 32, 33, 1 << 16, 1<<31 - 1, 1 << 31, top - 1, top}
}

// P7.1: an operation is alu.Do of Dst and the operand, in this order, in any
// registers.
func TestOperations(t *testing.T) {
	for n := range api.Alus {
		for _, a := range someWords() {
			for _, b := range someWords() {
				want, _ := alu.Do(n, a, b)
				checkRet(t, "number", alone(mov(0, a), compute(n, 0, b), exit()), full(), want, 3)
				checkRet(t, "register", alone(mov(0, a), mov(5, b), withReg(compute(n, 0, 0), 5), exit()), full(), want, 4)
			}
		}
	}
	for dst := range api.Regs {
		for src := range api.Regs {
			l := movs(0, start[:]...)
			want := start[dst] - start[src]
			checkRet(t, "registers", alone(append(l, withReg(compute(api.Sub, dst, 0), src), movReg(0, dst), exit())...), full(), want, 11)
			l = movs(0, start[:]...)
			checkRet(t, "move", alone(append(l, movReg(dst, src), movReg(0, dst), exit())...), full(), start[src], 11)
		}
	}
}

// P7.1: a Mov sets a register that is not set, by a number and by a register
// that is set; by one that is not set it fails, also by itself.
func TestMovToARegisterThatIsNotSet(t *testing.T) {
	for dst := range api.Regs {
		checkRet(t, "number", alone(mov(dst, 9), movReg(0, dst), exit()), full(), 9, 3)
		checkFault(t, "itself", alone(movReg(dst, dst), exit()), full(), 1)
		for src := range api.Regs {
			if src == dst {
				continue
			}
			checkRet(t, "register", alone(mov(src, 9), movReg(dst, src), movReg(0, dst), exit()), full(), 9, 4)
			checkFault(t, "not set", alone(mov(dst, 9), movReg(dst, src), exit()), full(), 2)
		}
	}
}

// P7.1: the words of the context are read by each index below 4, and by no
// other one; the context stays as it is.
func TestContext(t *testing.T) {
	e := full()
	e.Ctx = [api.CtxWords]uint32{top, 0, 1 << 31, 7}
	for at, want := range e.Ctx {
		index := uint32(at)
		for k := range api.Regs {
			checkRet(t, "number", alone(context(k, index), movReg(0, k), exit()), e, want, 3)
			checkRet(t, "register", alone(mov(k, index), withReg(context(0, 0), k), exit()), e, want, 3)
		}
	}
	for _, index := range []uint32{4, 5, 7, 15, 16, 256, 1 << 16, 1 << 31, 1<<31 + 1, top - 3, top} {
		checkFault(t, "number", alone(context(0, index), exit()), e, 1)
		checkFault(t, "register", alone(mov(1, index), withReg(context(0, 0), 1), exit()), e, 2)
	}
}

// P7.1: the words of the stack are 0 at first, and are written and read by each
// index below 16, and by no other one; a write changes just one of them.
func TestStack(t *testing.T) {
	e := full()
	if got := stack(t, alone(), e); got != [api.StackWords]uint32{} {
		t.Errorf("at first the stack is %v", got)
	}
	for at := range api.StackWords {
		index := uint32(at)
		var want [api.StackWords]uint32
		want[at] = top
		if got := stack(t, alone(mov(3, top), store(3, index)), e); got != want {
			t.Errorf("with word %d stored the stack is %v", at, got)
		}
		if got := stack(t, alone(mov(3, top), mov(5, index), withReg(store(3, 0), 5)), e); got != want {
			t.Errorf("with word %d stored by a register the stack is %v", at, got)
		}
		for k := range api.Regs {
			checkRet(t, "number", alone(mov(6, 9), store(6, index), load(k, index), movReg(0, k), exit()), e, 9, 5)
			checkRet(t, "register", alone(mov(6, 9), store(6, index), mov(k, index), withReg(load(0, 0), k), exit()), e, 9, 5)
		}
	}
	for _, index := range []uint32{16, 17, 31, 32, 256, 1 << 16, 1 << 31, 1<<31 + 1, top - 15, top} {
		checkFault(t, "load by a number", alone(load(0, index), exit()), e, 1)
		checkFault(t, "load by a register", alone(mov(1, index), withReg(load(0, 0), 1), exit()), e, 2)
		checkFault(t, "store by a number", alone(mov(0, 9), store(0, index), exit()), e, 2)
		checkFault(t, "store by a register", alone(mov(0, 9), mov(1, index), withReg(store(0, 0), 1), exit()), e, 3)
	}
}

// P7.1: the last word that was stored counts, and it is not the register.
func TestStoreAgain(t *testing.T) {
	l := code(mov(1, 5), store(1, 2), mov(1, 6), store(1, 2), mov(1, 7), store(1, 3), mov(1, 8))
	want := [api.StackWords]uint32{2: 6, 3: 7}
	if got := stack(t, alone(l...), full()); got != want {
		t.Errorf("the stack is %v", got)
	}
	checkRet(t, "load", alone(append(l, load(0, 2), exit())...), full(), 6, 9)
}

// places is code from whose position k on the result is k, in 2 instructions
// where k is even, and 99 in one instruction where it is odd.
func places(count int) []api.Inst {
	var l []api.Inst
	for k := range count {
		l = append(l, mov(0, uint32(2*k)), exit())
	}
	return l
}

// P7.1: a jump that holds advances by Off + 1, and one that does not by 1.
func TestJumps(t *testing.T) {
	for n := range api.Conds {
		for _, a := range someWords() {
			for _, b := range someWords() {
				holds, _ := alu.Holds(n, a, b)
				for _, off := range []int{0, 1, 4, 11} {
					ret, more := uint32(0), 2
					if holds && off%2 == 1 {
						ret, more = 99, 1
					} else if holds {
						ret = uint32(off)
					}
					head := code(mov(0, 99), mov(1, a), mov(2, b))
					number, register := jump(n, 1, b, off), withReg(jump(n, 1, 0, off), 2)
					if n == api.Always {
						number, register = always(off), always(off)
					}
					checkRet(t, "number", alone(join(head, code(number), places(6))...), full(), ret, 4+more)
					checkRet(t, "register", alone(join(head, code(register), places(6))...), full(), ret, 4+more)
				}
			}
		}
	}
}

// P7.1: an unconditional jump reads no register; just to the last instruction
// is inside the code, just to the end and beyond it is not, and the missing
// instruction is one that was executed.
func TestJumpsToTheEnd(t *testing.T) {
	for size := 1; size <= 60; size++ {
		rest := join(slices.Repeat(code(mov(1, 1)), size-1), code(context(0, 3)))
		for _, head := range []api.Inst{always(size - 1), jump(api.Eq, 7, 5, size-1)} {
			checkFault(t, "the last one", alone(join(code(mov(7, 5), head), rest)...), full(), 4)
		}
		for _, off := range []int{size, size + 1, size + 2, 255, 256, api.MaxOff - 1, api.MaxOff} {
			checkFault(t, "unconditional, nothing set", alone(join(code(always(off)), rest)...), full(), 2)
			checkFault(t, "holds", alone(join(code(mov(7, 5), jump(api.Eq, 7, 5, off)), rest)...), full(), 3)
			p := alone(join(code(mov(0, 5), jump(api.Ne, 0, 5, off)), rest, code(exit()))...)
			checkRet(t, "does not hold", p, full(), 14, size+3)
		}
	}
	checkRet(t, "to the exit, nothing set", alone(always(2), exit(), exit(), mov(0, 4), exit()), full(), 4, 3)
}

// P7.1: code that runs off its end fails at the missing instruction, which is
// counted, and takes fuel: one too little is ErrLong.
func TestCodeRunsOffItsEnd(t *testing.T) {
	for size := 1; size <= api.MaxCode; size++ {
		checkFault(t, "movs", alone(slices.Repeat(code(mov(0, 7)), size)...), full(), size+1)
	}
	for _, i := range []api.Inst{context(0, 0), load(0, 0), always(0), help(api.HelpHas), mov(0, 1), call(1), store(1, 0), jump(api.Eq, 1, 0, 0)} {
		p := program(fn(0, mov(1, 0), mov(2, 0), i), fn(0, mov(0, 1), exit()))
		used := 4
		if i.Op == api.OpCall {
			used = 6
		}
		checkFault(t, "last", p, full(), used)
	}
	p := alone(mov(0, 7))
	checkOne(t, "one too little", p, 0, full(), 1, nil, api.Ran{E: full(), Used: 1, Err: api.ErrLong})
	checkOne(t, "just enough", p, 0, full(), 2, nil, api.Ran{E: full(), Used: 2, Err: api.ErrFault})
	p = program(fn(0, call(1), exit()), fn(0, mov(0, 1)))
	checkFault(t, "in a call", p, full(), 3)
}
