package interp_test

import (
	"fmt"
	"testing"

	"drydock/alu"
	"drydock/api"
	"drydock/helper"
	"drydock/interp"
	"drydock/prog"
	"drydock/table"
)

// active is a frame of the model: registers that are set are in the map.
type active struct {
	n, at int
	r     map[int]uint32
	s     [api.StackWords]uint32
}

// machine is the model: a list of frames, the last of which is executed.
type machine struct {
	p   api.Prog
	l   []*active
	ran api.Ran
}

func (m *machine) enter(n int, a []uint32) {
	f := &active{n: n, r: map[int]uint32{}}
	for k, v := range a {
		f.r[k+1] = v
	}
	m.l = append(m.l, f)
}

// leave takes v, the word of a call, into the last frame.
func (m *machine) leave(v uint32) {
	f := m.l[len(m.l)-1]
	for _, k := range lost {
		delete(f.r, k)
	}
	f.r[0] = v
	f.at++
}

// first returns the first words from register 1 on, if all of them are set.
func (f *active) first(count int) ([]uint32, bool) {
	a, all := []uint32{}, count >= 0
	for k := 1; k <= count; k++ {
		v, ok := f.r[k]
		a, all = append(a, v), all && ok
	}
	return a, all
}

// model returns what the chapter says of a call of a function that there is,
// with the right number of arguments and with fuel in its range.
func model(p api.Prog, n int, e api.Env, fuel int, a []uint32) api.Ran {
	m := machine{p: p, ran: api.Ran{E: deep(e)}}
	m.enter(n, a)
	for len(m.l) > 0 && m.ran.Err == api.OK {
		f := m.l[len(m.l)-1]
		if m.ran.Used == fuel {
			m.ran.Err = api.ErrLong
			break
		}
		m.ran.Used++
		c := p.Fns[f.n].Code
		if f.at >= len(c) || !m.does(f, c[f.at]) {
			m.ran.Err = api.ErrFault
		}
	}
	if m.ran.Err != api.OK {
		m.ran.Ret = 0
	}
	return m.ran
}

// does executes an instruction, and tells whether it does not fail.
func (m *machine) does(f *active, i api.Inst) bool {
	dst, has := f.r[i.Dst]
	word, known := i.Imm, true
	if i.Reg {
		word, known = f.r[i.Src]
	}
	switch i.Op {
	case api.OpAlu:
		f.r[i.Dst], _ = alu.Do(i.Fn, dst, word)
		f.at++
		return known && (has || i.Fn == api.Mov)
	case api.OpJump:
		if holds, _ := alu.Holds(i.Fn, dst, word); holds {
			f.at += i.Off
		}
		f.at++
		return i.Fn == api.Always || has && known
	case api.OpHelp:
		return m.helps(f, int(i.Imm))
	case api.OpCall:
		return m.calls(f, int(i.Imm))
	case api.OpExit:
		m.l = m.l[:len(m.l)-1]
		if m.ran.Ret = dst; len(m.l) > 0 {
			m.leave(dst)
		}
		return has
	}
	return m.reaches(f, i, word, known)
}

// reaches executes an instruction that reads or writes a word by its index.
func (m *machine) reaches(f *active, i api.Inst, at uint32, known bool) bool {
	f.at++
	dst, has := f.r[i.Dst]
	switch {
	case !known:
	case i.Op == api.OpCtx && at <= 3:
		f.r[i.Dst] = m.ran.E.Ctx[at]
		return true
	case i.Op == api.OpLoad && at <= 15:
		f.r[i.Dst] = f.s[at]
		return true
	case i.Op == api.OpStore && at <= 15:
		f.s[at] = dst
		return has
	}
	return false
}

func (m *machine) helps(f *active, n int) bool {
	a, ok := f.first(helper.Args(n))
	if !ok {
		return false
	}
	e, v, err := helper.Call(n, m.ran.E, a...)
	if err != api.OK {
		return false
	}
	m.ran.E = e
	m.leave(v)
	return true
}

func (m *machine) calls(f *active, n int) bool {
	if n <= f.n || n >= len(m.p.Fns) {
		return false
	}
	a, ok := f.first(m.p.Fns[n].Args)
	if ok {
		m.enter(n, a)
	}
	return ok
}

// dice draws numbers, always the same ones.
type dice uint32

func (d *dice) below(n int) int {
	*d += 0x9e3779b9
	x := uint32(*d)
	x = (x ^ x>>16) * 0x7feb352d
	x = (x ^ x>>15) * 0x846ca68b
	return int((x ^ x>>16) % uint32(n))
}

// rarely tells true once in as many times.
func (d *dice) rarely(n int) bool { return d.below(n) == 0 }

// writer writes code of a function in which failures are rare: it notes which
// registers are set, as if no jump held.
type writer struct {
	d    *dice
	p    api.Prog
	n    int
	set  map[int]bool
	code []api.Inst
}

// register picks one that is set, or rarely any one.
func (w *writer) register() int {
	for range 20 {
		if k := w.d.below(api.Regs); w.set[k] {
			return k
		}
	}
	return w.d.below(api.Regs)
}

func (w *writer) put(i api.Inst) { w.code = append(w.code, i) }

func (w *writer) mov(dst int, v uint32) {
	w.put(mov(dst, v))
	w.set[dst] = true
}

// calls writes code that sets the arguments and calls.
func (w *writer) calls(i api.Inst, a ...uint32) {
	for k, v := range a {
		if !w.d.rarely(60) {
			w.mov(k+1, v)
		}
	}
	w.put(i)
	for _, k := range lost {
		w.set[k] = false
	}
	w.set[0] = true
}

func (w *writer) helps() {
	n := w.d.below(api.Helps)
	at := uint32(w.d.below(3))
	if n == api.HelpPush {
		at = atRing
	}
	a := []uint32{at, uint32(w.d.below(5)), uint32(w.d.below(2)), uint32(w.d.below(100))}
	if w.d.rarely(60) {
		a[w.d.below(3)] = uint32(w.d.below(6))
	}
	number := uint32(n)
	if w.d.rarely(60) {
		number = api.Helps + uint32(w.d.below(3))
	}
	w.calls(help(number), a[:helper.Args(n)]...)
}

func (w *writer) functions() {
	n := w.n + 1 + w.d.below(len(w.p.Fns)-w.n)
	if w.d.rarely(30) {
		n = w.d.below(len(w.p.Fns) + 1)
	}
	if n >= len(w.p.Fns) && !w.d.rarely(30) {
		return
	}
	args := 0
	if n < len(w.p.Fns) {
		args = w.p.Fns[n].Args
	}
	w.calls(call(uint32(n)), []uint32{3, 1, 4, uint32(w.d.below(9))}[:args]...)
}

// words writes an instruction whose operand is a number or a register.
func (w *writer) words() {
	dst, src := w.register(), w.register()
	i := compute(w.d.below(api.Alus), dst, uint32(w.d.below(40)))
	switch w.d.below(7) {
	case 0:
		i = jump(1+w.d.below(api.Conds-1), dst, uint32(w.d.below(20)), w.d.below(3))
	case 1:
		i = context(w.d.below(api.Regs), uint32(w.d.below(4)))
	case 2:
		i = load(w.d.below(api.Regs), uint32(w.d.below(16)))
	case 3:
		i = store(dst, uint32(w.d.below(16)))
	case 4:
		w.put(always(w.d.below(2)))
	}
	if w.d.rarely(60) {
		i.Imm = top - uint32(w.d.below(3))
	}
	byIndex := i.Op == api.OpCtx || i.Op == api.OpLoad || i.Op == api.OpStore
	if byIndex && w.d.rarely(2) {
		w.mov(src, i.Imm)
		i = withReg(i, src)
	} else if !byIndex && w.d.rarely(2) {
		i = withReg(i, src)
	}
	w.put(i)
	if i.Op != api.OpJump {
		w.set[i.Dst] = true
	}
}

// write writes the code of function n of p.
func write(d *dice, p api.Prog, n int) []api.Inst {
	w := writer{d: d, p: p, n: n, set: map[int]bool{}}
	for k := range p.Fns[n].Args {
		w.set[k+1] = true
	}
	w.mov(d.below(2)*6, uint32(d.below(9)))
	for steps := 3 + d.below(12); steps > 0 && len(w.code) < 50; steps-- {
		switch d.below(6) {
		case 0:
			w.helps()
		case 1:
			w.functions()
		case 2:
			w.mov(d.below(api.Regs), uint32(d.below(30)))
		default:
			w.words()
		}
	}
	w.put(mov(7, 0))
	if !d.rarely(20) {
		w.put(movReg(0, w.register()))
	}
	if !d.rarely(20) {
		w.put(exit())
	}
	return w.code
}

// drawn returns a valid program.
func drawn(d *dice) api.Prog {
	p := api.Prog{Fns: make([]api.Fn, 1+d.below(api.MaxFns))}
	for n := 1; n < len(p.Fns); n++ {
		p.Fns[n].Args = d.below(api.MaxArgs + 1)
	}
	for n := range p.Fns {
		p.Fns[n].Code = write(d, p, n)
	}
	return p
}

// P7.1 to P7.3: many programs do what the chapter says, with each amount of
// fuel up to where they end, and the same with more.
func TestProgramsAgainstTheModel(t *testing.T) {
	var ends [api.ErrFault + 1]int
	long := 0
	d := dice(1)
	for round := range 3000 {
		p := drawn(&d)
		if !prog.May(p) {
			t.Fatalf("%+v is not valid", p)
		}
		n := d.below(len(p.Fns))
		a := []uint32{1, 2, 3, 4}[:p.Fns[n].Args]
		want := model(p, n, full(), api.MaxFuel, a)
		ends[want.Err]++
		if want.Err == api.OK && want.Used > 40 {
			long++
		}
		name := fmt.Sprint("program ", round)
		checkOne(t, name, p, n, full(), api.MaxFuel, a, want)
		for _, fuel := range []int{0, 1, 2, want.Used / 2, want.Used - 1, want.Used, want.Used + 1, d.below(want.Used + 1)} {
			if fuel <= api.MaxFuel {
				checkOne(t, name, p, n, full(), fuel, a, model(p, n, full(), fuel, a))
			}
		}
		checkSchemas(t, name, interp.Call(p, n, full(), api.MaxFuel, a...))
		if t.Failed() {
			t.Fatalf("%s: function %d of %+v", name, n, p)
		}
	}
	if ends[api.OK] < 500 || ends[api.ErrFault] < 500 || long < 100 {
		t.Errorf("the programs end with %v, and %d are long", ends, long)
	}
}

func checkSchemas(t *testing.T, name string, got api.Ran) {
	t.Helper()
	for at, u := range full().T {
		if got.E.T[at].S != u.S || !table.May(got.E.T[at]) {
			t.Errorf("%s: table %d became %+v", name, at, got.E.T[at])
		}
	}
}
