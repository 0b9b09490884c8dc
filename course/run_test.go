package course_test

import (
	"testing"

	"drydock/api"
	"drydock/course"
	"drydock/interp"
	"drydock/prog"
)

// unit is code that is executed as a whole: an instruction, or a call behind
// instructions that set its arguments.
type unit struct {
	l    []api.Inst
	to   int // the unit to which the last instruction jumps
	jump bool
}

// lay lays units behind each other. Jumps to units that there are not go beyond
// the end.
func lay(units []unit) []api.Inst {
	starts := make([]int, len(units)+1)
	for k, u := range units {
		starts[k+1] = starts[k] + len(u.l)
	}
	var l []api.Inst
	for _, u := range units {
		l = append(l, u.l...)
		if u.jump {
			target := starts[min(u.to, len(units))] + max(0, u.to-len(units))
			l[len(l)-1].Off = target - len(l)
		}
	}
	return l
}

// writer writes functions that fail only where their code ends.
type writer struct {
	d     *dice
	p     api.Prog
	short bool // there are no jumps
}

func (w *writer) unit(n, at, units int) unit {
	d := w.d
	switch k := d.below(10); {
	case k < 2:
		return unit{l: code(plain())}
	case k < 3:
		return unit{l: code(api.Inst{Op: api.OpCtx, Dst: 6 + d.below(2), Imm: uint32(d.below(api.CtxWords))})}
	case k < 4:
		return unit{l: code(api.Inst{Op: api.OpHelp, Imm: api.HelpDraw})}
	case k < 5 && n+1 < len(w.p.Fns) || w.short && n+1 < len(w.p.Fns):
		return unit{l: w.call(n + 1 + d.below(len(w.p.Fns)-n-1))}
	case k < 9 && !w.short:
		i := api.Inst{Op: api.OpJump, Fn: api.Eq + d.below(api.Conds-1), Dst: 6, Reg: true, Src: 7}
		if k == 8 {
			i = always(0)
		}
		return unit{l: code(i), to: w.target(at, units), jump: true}
	case d.rarely(4):
		return unit{l: code(exit())}
	}
	return unit{l: code(api.Inst{Op: api.OpAlu, Fn: d.below(api.Alus), Dst: 6, Reg: true, Src: 7})}
}

// target draws a unit behind another one, rarely one that there is not.
func (w *writer) target(at, units int) int {
	to := at + 1 + w.d.below(3)
	if to >= units && !w.d.rarely(6) {
		return units - 1
	}
	return to
}

func (w *writer) call(to int) []api.Inst {
	var l []api.Inst
	for k := range w.p.Fns[to].Args {
		l = append(l, mov(1+k, uint32(w.d.below(4))))
	}
	return append(l, call(uint32(to)))
}

func (w *writer) function(n int) []api.Inst {
	units := []unit{{l: code(plain(), api.Inst{Op: api.OpCtx, Dst: 6, Imm: uint32(n % api.CtxWords)}, mov(7, uint32(w.d.below(4))))}}
	count := 2 + w.d.below(9)
	for len(units) < count-1 {
		units = append(units, w.unit(n, len(units), count))
	}
	last := exit()
	if w.d.rarely(12) {
		last = plain()
	}
	return lay(append(units, unit{l: code(last)}))
}

// runnable returns a valid program that fails only where the code of a function
// ends.
func runnable(d *dice) api.Prog {
	w := writer{d: d, p: api.Prog{Fns: make([]api.Fn, 1+d.below(api.MaxFns))}, short: d.rarely(3)}
	for n := range w.p.Fns {
		if n > 0 {
			w.p.Fns[n].Args = d.below(api.MaxArgs + 1)
		}
	}
	for n := range w.p.Fns {
		w.p.Fns[n].Code = w.function(n)
	}
	return w.p
}

// allFine tells whether no function has an end that is reached without an
// OpExit.
func allFine(p api.Prog) bool {
	for _, f := range p.Fns {
		if !course.Fine(f.Code) {
			return false
		}
	}
	return true
}

// P8.4: a program executes at most its Budget, and one more if it reaches an
// end without an OpExit. Many of these programs use that up.
func TestUseOfRunnablePrograms(t *testing.T) {
	d := dice(3)
	ends, just, faults, more := 0, 0, 0, 0
	for range 4000 {
		p := runnable(&d)
		if !prog.May(p) {
			t.Fatalf("%+v is not valid", p)
		}
		budget, fine := course.Budget(p), allFine(p)
		for range 6 {
			e := api.Env{Seed: uint32(d.below(99))}
			for k := range e.Ctx {
				e.Ctx[k] = uint32(d.below(5))
			}
			got := interp.Run(p, e, api.MaxFuel)
			switch got.Err {
			case api.OK:
				ends++
				if got.Used == budget {
					just++
				}
			case api.ErrFault:
				faults++
				if got.Used == budget+1 {
					more++
				}
			}
			if got.Err == api.OK && got.Used > budget || got.Used > budget+1 || fine && got.Used > budget {
				t.Fatalf("%d instructions, error %d; Budget %d, of %+v with %v", got.Used, got.Err, budget, p, e)
			}
			if got.Err != api.OK && fine && budget < api.MaxFuel {
				t.Fatalf("error %d of %+v with %v", got.Err, p, e)
			}
		}
	}
	if ends < 10000 || just < 500 || faults < 500 || more < 100 {
		t.Errorf("%d end, %d with their budget; %d fail, %d with one more", ends, just, faults, more)
	}
}

// P8.4: programs that fail in other ways too.
func TestUseOfDrawnPrograms(t *testing.T) {
	d := dice(4)
	for range 4000 {
		p := drawnProgram(&d)
		for n := range p.Fns {
			if f := &p.Fns[n]; len(f.Code) < api.MaxCode && !d.rarely(5) {
				f.Code = append(code(mov(d.below(api.Regs), uint32(d.below(4)))), f.Code...)
			}
		}
		budget := course.Budget(p)
		got := interp.Run(p, api.Env{}, api.MaxFuel)
		if got.Used > budget+1 || got.Used > budget && (got.Err != api.ErrFault || allFine(p)) {
			t.Fatalf("%d instructions, error %d; Budget %d, of %+v", got.Used, got.Err, budget, p)
		}
	}
}
