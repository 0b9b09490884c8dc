package verify_test

import (
	"slices"
	"testing"

	"drydock/api"
	"drydock/bounds"
	"drydock/course"
	"drydock/prog"
	"drydock/verify"
)

// model tells what the chapter's definitions say about one function.
type model struct {
	p    api.Prog
	fn   int
	maps []api.Schema
}

// edge is a shape that an instruction yields at a position.
type edge struct {
	to int
	s  api.Shape
}

func (m model) word(s api.Shape, i api.Inst) (complex128, bool) {
	if i.Reg {
		return s.R[i.Src], s.Set[i.Src]
	}
	return complex(float64(i.Imm), float64(i.Imm)), true
}

func argsSet(s api.Shape, count int) bool {
	return count >= 0 && !slices.Contains(s.Set[1:1+count], false)
}

func (m model) helps(s api.Shape, n uint32) bool {
	if n >= api.Helps || !argsSet(s, argsOf[n]) {
		return false
	}
	if n == api.HelpDraw {
		return true
	}
	number := real(s.R[1])
	if number != imag(s.R[1]) || number >= float64(len(m.maps)) {
		return false
	}
	c := m.maps[int(number)]
	if (n == api.HelpPush) != (c.Kind == api.Ring) {
		return false
	}
	return n != api.HelpGet && n != api.HelpSet || imag(s.R[3]) < float64(c.Words)
}

func (m model) calls(s api.Shape, n uint32) bool {
	return n > uint32(m.fn) && n < uint32(len(m.p.Fns)) && argsSet(s, m.p.Fns[n].Args)
}

// edges returns what an instruction yields where s is known, and whether it is
// safe, but for positions beyond the end.
func (m model) edges(at int, s api.Shape) ([]edge, bool) {
	i := m.p.Fns[m.fn].Code[at]
	a, b, aSet := s.R[i.Dst], complex128(0), s.Set[i.Dst]
	b, bSet := m.word(s, i)
	next, target := at+1, at+1+i.Off
	switch i.Op {
	case api.OpAlu:
		if i.Fn == api.Mov {
			return []edge{{next, with(s, i.Dst, b)}}, bSet
		}
		return []edge{{next, with(s, i.Dst, bounds.Alu(i.Fn, a, b))}}, aSet && bSet
	case api.OpCtx:
		return []edge{{next, with(s, i.Dst, all)}}, bSet && imag(b) <= 3
	case api.OpLoad:
		return []edge{{next, with(s, i.Dst, all)}}, bSet && imag(b) <= 15
	case api.OpStore:
		return []edge{{next, s}}, aSet && bSet && imag(b) <= 15
	case api.OpHelp:
		return []edge{{next, behind(s)}}, m.helps(s, i.Imm)
	case api.OpCall:
		return []edge{{next, behind(s)}}, m.calls(s, i.Imm)
	case api.OpExit:
		return nil, s.Set[0]
	}
	if i.Fn == api.Always {
		return []edge{{target, s}}, true
	}
	var l []edge
	if cut, ok := bounds.Cut(i.Fn, a, b); ok {
		l = append(l, edge{target, with(s, i.Dst, cut)})
	}
	if cut, ok := bounds.Cut(otherwise(i.Fn), a, b); ok {
		l = append(l, edge{next, with(s, i.Dst, cut)})
	}
	return l, aSet && bSet
}

func joined(s, t api.Shape) api.Shape {
	var both api.Shape
	for n := range both.Set {
		if s.Set[n] && t.Set[n] {
			both = with(both, n, complex(min(real(s.R[n]), real(t.R[n])), max(imag(s.R[n]), imag(t.R[n]))))
		}
	}
	return both
}

// at collects what the positions before one yield there, of which the shapes
// are known.
func (m model) at(to int, shapes []api.Shape, known []bool) (api.Shape, bool) {
	if to == 0 {
		var s api.Shape
		for k := range m.p.Fns[m.fn].Args {
			s = with(s, 1+k, all)
		}
		return s, true
	}
	var s api.Shape
	is := false
	for from := to - 1; from >= 0; from-- {
		if !known[from] {
			continue
		}
		l, _ := m.edges(from, shapes[from])
		for _, e := range l {
			if e.to == to && is {
				s = joined(s, e.s)
			} else if e.to == to {
				s, is = e.s, true
			}
		}
	}
	return s, is
}

// all returns the known shapes, and whether no instruction is unsafe.
func (m model) all() ([]api.Shape, []bool, bool) {
	var shapes []api.Shape
	var known []bool
	safe := true
	size := len(m.p.Fns[m.fn].Code)
	for at := range size {
		s, is := m.at(at, shapes, known)
		shapes, known = append(shapes, s), append(known, is)
		if !is {
			continue
		}
		l, ok := m.edges(at, s)
		for _, e := range l {
			ok = ok && e.to < size
		}
		safe = safe && ok
	}
	return shapes, known, safe
}

// modelVerify is Verify of a valid program.
func modelVerify(p api.Prog, l []api.Schema) (int, api.Errno) {
	for n, f := range p.Fns {
		if _, _, safe := (model{p, n, l}).all(); !safe {
			return 0, api.ErrSafe
		}
		for at, i := range f.Code {
			if i.Op == api.OpJump && at+i.Off+1 >= len(f.Code) || i.Op == api.OpCall && i.Imm >= uint32(len(p.Fns)) {
				return 0, api.ErrSafe
			}
		}
	}
	if n := course.Budget(p); n <= api.MaxBudget {
		return n, api.OK
	}
	return 0, api.ErrLong
}

// dice draws numbers, always the same ones.
type dice uint32

func (d *dice) below(n int) int {
	*d += 0x9e3779b9
	x := uint32(*d)
	x = (x ^ x>>16) * 0x7feb352d
	x = (x ^ x>>15) * 0x846ca68b
	return int((x ^ x>>16) % uint32(n))
}

// rarely tells true once in as many times.
func (d *dice) rarely(n int) bool { return d.below(n) == 0 }

// word draws a word, mostly a small one.
func (d *dice) word() uint32 {
	if d.rarely(6) {
		return []uint32{15, 16, 17, 100, 1 << 16, 1 << 31, top - 1, top}[d.below(8)]
	}
	return uint32(d.below(5))
}

// inst draws an instruction of any kind, for a position of function n.
func (d *dice) inst(p api.Prog, n, at, size int) api.Inst {
	i := api.Inst{Dst: d.below(api.Regs), Imm: d.word()}
	if d.rarely(2) {
		i = by(d.below(api.Regs), i)
	}
	switch k := d.below(20); {
	case k < 7:
		i.Op, i.Fn = api.OpAlu, d.below(api.Alus)
		if d.rarely(2) {
			i.Fn = api.Mov
		}
	case k < 11:
		i.Op, i.Fn, i.Off = api.OpJump, api.Eq+d.below(api.Conds-1), d.below(min(5, size-at))
	case k < 12:
		return always(d.below(min(4, size-at)))
	case k < 14:
		i.Op = api.OpCtx + d.below(3)
	case k < 17:
		return help(uint32(d.below(api.Helps)))
	case k < 19:
		return call(uint32(n + 1 + d.below(max(1, len(p.Fns)-n-1))))
	default:
		return exit()
	}
	return i
}

// prepare draws code that sets the registers of arguments to what helpers often
// can do with.
func (d *dice) prepare() []api.Inst {
	l := code(mov(0, d.word()), mov(1, uint32(d.below(4))), mov(2, d.word()), mov(3, uint32(d.below(2))), mov(4, d.word()))
	return l[:1+d.below(len(l))]
}

// function draws the code of function n. Where something is known, it often
// draws again what is unsafe.
func (d *dice) function(p api.Prog, n int, l []api.Schema, patience int) []api.Inst {
	m := model{api.Prog{Fns: slices.Clone(p.Fns)}, n, l}
	c := &m.p.Fns[n].Code
	*c = d.prepare()
	shapes, known, _ := m.all()
	for size := len(*c) + d.below(14); len(*c) < size; {
		at := len(*c)
		s, is := m.at(at, shapes, known)
		shapes, known = append(shapes, s), append(known, is)
		*c = append(*c, exit())
		for range patience {
			(*c)[at] = d.inst(p, n, at, size)
			if _, safe := m.edges(at, s); !is || safe {
				break
			}
		}
	}
	if d.rarely(20) {
		return *c
	}
	return append(*c, exit())
}

// program draws a valid program.
func (d *dice) program(l []api.Schema) api.Prog {
	p := api.Prog{Fns: make([]api.Fn, 1+d.below(4))}
	for n := range p.Fns {
		if n > 0 {
			p.Fns[n].Args = d.below(api.MaxArgs + 1)
		}
	}
	patience := 1 + d.below(20)
	for n := range p.Fns {
		p.Fns[n].Code = d.function(p, n, l, patience)
	}
	return p
}

// schemas draws schemas, of any kinds.
func (d *dice) schemas() []api.Schema {
	l := make([]api.Schema, d.below(api.MaxMaps+1))
	for k := range l {
		l[k] = api.Schema{Kind: d.below(api.Maps), Cap: 1 + d.below(api.MaxKeys), Words: 1 + d.below(api.MaxWords), Ver: d.below(api.MaxVer + 1)}
		if l[k].Kind == api.Ring {
			l[k].Words = 1
		}
	}
	return l
}

func checkModel(t *testing.T, p api.Prog, l []api.Schema) (fine bool) {
	t.Helper()
	for n := range p.Fns {
		shapes, known, safe := (model{p, n, l}).all()
		s, is, e := verify.Shapes(p, n, l)
		if safe && (e != api.OK || !slices.Equal(s, shapes) || !slices.Equal(is, known)) {
			t.Fatalf("Shapes is\n%v, %v, %d; want\n%v, %v, 0, of function %d of %+v with %+v", s, is, e, shapes, known, n, p, l)
		}
		if !safe && (e != api.ErrSafe || len(s) > 0 || len(is) > 0) {
			t.Fatalf("Shapes is %v, %v, %d; want ErrSafe, of function %d of %+v with %+v", s, is, e, n, p, l)
		}
	}
	budget, want := modelVerify(p, l)
	if got, e := verify.Verify(p, l); got != budget || e != want {
		t.Fatalf("Verify is %d, %d; want %d, %d, of %+v with %+v", got, e, budget, want, p, l)
	}
	return want == api.OK
}

// P11.1, P11.2: all kinds of instructions, mixed.
func TestProgramsAgainstTheModel(t *testing.T) {
	d := dice(1)
	accepted, others := 0, 0
	for range 6000 {
		l := d.schemas()
		p := d.program(l)
		if !prog.May(p) {
			t.Fatalf("%+v is not valid", p)
		}
		if checkModel(t, p, l) {
			accepted++
		} else {
			others++
		}
	}
	if accepted < 1000 || others < 1000 {
		t.Errorf("%d are accepted, %d are not", accepted, others)
	}
}

// P11.1, P11.2: a program of which one instruction was changed.
func TestChangedProgramsAgainstTheModel(t *testing.T) {
	d := dice(2)
	accepted, others := 0, 0
	for range 1500 {
		l := d.schemas()
		p := d.program(l)
		if _, e := verify.Verify(p, l); e != api.OK {
			continue
		}
		for range 8 {
			n := d.below(len(p.Fns))
			c := p.Fns[n].Code
			at := d.below(len(c))
			old := c[at]
			c[at] = d.inst(p, n, at, len(c)+2)
			if d.rarely(3) {
				c[at].Imm = old.Imm
				c[at].Reg, c[at].Src = false, 0
			}
			if prog.May(p) {
				if checkModel(t, p, l) {
					accepted++
				} else {
					others++
				}
			}
			c[at] = old
		}
	}
	if accepted < 500 || others < 500 {
		t.Errorf("%d are accepted, %d are not", accepted, others)
	}
}
