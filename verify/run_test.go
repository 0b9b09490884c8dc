package verify_test

import (
	"testing"

	"drydock/alu"
	"drydock/api"
	"drydock/helper"
	"drydock/interp"
	"drydock/shape"
	"drydock/table"
	"drydock/verify"
)

// tracer executes a program that is accepted, and checks at each instruction
// that the known shape holds.
type tracer struct {
	t      *testing.T
	p      api.Prog
	shapes [][]api.Shape
	known  [][]bool
	e      api.Env
	used   int
	kinds  *[api.Ops]int
}

func newTracer(t *testing.T, p api.Prog, l []api.Schema, e api.Env, kinds *[api.Ops]int) *tracer {
	t.Helper()
	tr := &tracer{t: t, p: p, e: e, kinds: kinds}
	for n := range p.Fns {
		s, known, err := verify.Shapes(p, n, l)
		if err != api.OK {
			t.Fatalf("Shapes is %d", err)
		}
		tr.shapes, tr.known = append(tr.shapes, s), append(tr.known, known)
	}
	return tr
}

// frame is an active function.
type frame struct {
	at    int
	set   bools
	regs  [api.Regs]uint32
	stack [api.StackWords]uint32
}

func (f *frame) put(n int, v uint32) { f.set[n], f.regs[n] = true, v }

func (f *frame) back(v uint32) {
	for n := 1; n <= 5; n++ {
		f.set[n] = false
	}
	f.put(0, v)
}

// execute executes a function, whose instructions do not fail: all that it does
// is within the words, tables and functions that there are.
func (tr *tracer) execute(n int, args []uint32) uint32 {
	var f frame
	for k, v := range args {
		f.put(1+k, v)
	}
	for {
		i := tr.p.Fns[n].Code[f.at]
		if !tr.known[n][f.at] || !shape.Holds(tr.shapes[n][f.at], f.set, f.regs) {
			tr.t.Fatalf("%v, %v does not hold at %d of function %d with %v, %v, of %+v", tr.known[n][f.at], tr.shapes[n][f.at], f.at, n, f.set, f.regs, tr.p)
		}
		tr.used++
		tr.kinds[i.Op]++
		f.at++
		if i.Op == api.OpExit {
			return f.regs[0]
		}
		tr.one(&f, i)
	}
}

func (tr *tracer) one(f *frame, i api.Inst) {
	a, b := f.regs[i.Dst], i.Imm
	if i.Reg {
		b = f.regs[i.Src]
	}
	switch i.Op {
	case api.OpAlu:
		v, _ := alu.Do(i.Fn, a, b)
		f.put(i.Dst, v)
	case api.OpJump:
		if holds, _ := alu.Holds(i.Fn, a, b); holds {
			f.at += i.Off
		}
	case api.OpCtx:
		f.put(i.Dst, tr.e.Ctx[b])
	case api.OpLoad:
		f.put(i.Dst, f.stack[b])
	case api.OpStore:
		f.stack[b] = a
	case api.OpHelp:
		e, v, err := helper.Call(int(b), tr.e, f.regs[1:1+helper.Args(int(b))]...)
		if err != api.OK {
			tr.t.Fatalf("helper %d fails with %v, of %+v", b, f.regs, tr.p)
		}
		tr.e = e
		f.back(v)
	case api.OpCall:
		f.back(tr.execute(int(b), f.regs[1:1+tr.p.Fns[b].Args]))
	}
}

// table draws a valid table.
func (d *dice) table(t *testing.T, s api.Schema) api.Table {
	u, e := table.New(s)
	if e != api.OK {
		t.Fatalf("New of %+v is %d", s, e)
	}
	for range d.below(2 * s.Cap) {
		var next api.Table
		if s.Kind == api.Ring {
			next, e = table.Push(u, d.word())
		} else {
			next, e = table.Set(u, d.word(), uint32(d.below(s.Words)), d.word())
		}
		if e == api.OK {
			u = next
		}
	}
	return u
}

func (d *dice) env(t *testing.T, l []api.Schema) api.Env {
	e := api.Env{Seed: uint32(d.below(1 << 30))}
	for k := range e.Ctx {
		e.Ctx[k] = d.word()
	}
	for _, s := range l {
		e.T = append(e.T, d.table(t, s))
	}
	return e
}

// checkRuns executes a program that is accepted with its Budget as fuel, and
// tells whether it took all of it.
func checkRuns(t *testing.T, d *dice, p api.Prog, l []api.Schema, budget int, kinds *[api.Ops]int) bool {
	t.Helper()
	most := 0
	for range 5 {
		e := d.env(t, l)
		got := interp.Run(p, e, budget)
		if got.Err != api.OK || got.Used > budget {
			t.Fatalf("error %d after %d of %d, of %+v with %+v", got.Err, got.Used, budget, p, e)
		}
		for k, u := range got.E.T {
			if !table.May(u) || u.S != l[k] {
				t.Fatalf("table %d is %+v, of %+v with %+v", k, u, p, e)
			}
		}
		tr := newTracer(t, p, l, e, kinds)
		ret := tr.execute(0, nil)
		if ret != got.Ret || tr.used != got.Used || tr.e.Seed != got.E.Seed || !same(tr.e.T, got.E.T) {
			t.Fatalf("%d after %d; the interpreter has %d after %d, of %+v with %+v", ret, tr.used, got.Ret, got.Used, p, e)
		}
		most = max(most, got.Used)
	}
	return most == budget
}

func same(l, m []api.Table) bool {
	for k := range l {
		if !table.Same(l[k], m[k]) {
			return false
		}
	}
	return len(l) == len(m)
}

// P11.3: what is accepted never fails and takes no more than its Budget, with
// any context and valid maps; each known shape holds.
func TestAcceptedProgramsNeverFail(t *testing.T) {
	d := dice(3)
	var kinds [api.Ops]int
	accepted, just := 0, 0
	for range 12000 {
		l := d.schemas()
		p := d.program(l)
		budget, e := verify.Verify(p, l)
		if e != api.OK {
			continue
		}
		accepted++
		if checkRuns(t, &d, p, l, budget, &kinds) {
			just++
		}
	}
	if accepted < 2000 || just < 500 {
		t.Errorf("%d are accepted, %d take their Budget", accepted, just)
	}
	for op, count := range kinds {
		if count < 1000 {
			t.Errorf("only %d instructions of kind %d are executed", count, op)
		}
	}
}

// P11.3: just the Budget of the greatest programs that are accepted is enough.
func TestJustTheBudget(t *testing.T) {
	for _, n := range []int{2, 3, 66, 1000, 1999, 2000} {
		p := costing(n)
		budget, _ := verify.Verify(p, nil)
		if got := interp.Run(p, api.Env{}, budget); got.Err != api.OK || got.Used != n {
			t.Errorf("%d: error %d after %d", n, got.Err, got.Used)
		}
		if got := interp.Run(p, api.Env{}, budget-1); got.Err != api.ErrLong {
			t.Errorf("%d: error %d after %d with one less", n, got.Err, got.Used)
		}
	}
}

// P11.3: an accepted program reads and writes maps of each kind, with any
// context.
func TestAcceptedProgramWithMaps(t *testing.T) {
	get := func(m, field uint32) []api.Inst {
		return code(mov(1, m), context(2, 1), mov(3, field), help(api.HelpGet), by(0, compute(api.Add, 7, 0)))
	}
	set := func(m uint32, words uint32) []api.Inst {
		return code(mov(1, m), context(2, 1), context(3, 2), compute(api.Mod, 3, words), context(4, 0), help(api.HelpSet), by(0, compute(api.Add, 7, 0)))
	}
	l := maps()
	p := alone(join(code(mov(7, 0)), set(0, 2), get(0, 1), set(2, 4), get(2, 3), set(3, 1), get(3, 0),
		code(mov(1, 1), by(7, mov(2, 0)), help(api.HelpPush), by(7, mov(0, 0)), exit()))...)
	budget, e := verify.Verify(p, l)
	if e != api.OK || budget != len(p.Fns[0].Code) {
		t.Fatalf("Verify is %d, %d", budget, e)
	}
	d := dice(4)
	var kinds [api.Ops]int
	for range 200 {
		if !checkRuns(t, &d, p, l, budget, &kinds) {
			t.Errorf("it does not take its Budget")
		}
	}
	for k := range l {
		if _, e := verify.Verify(p, l[:k]); e != api.ErrSafe {
			t.Errorf("with %d maps: %d", k, e)
		}
	}
}
