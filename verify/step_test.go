package verify_test

import (
	"fmt"
	"slices"
	"testing"

	"drydock/api"
	"drydock/bounds"
	"drydock/verify"
)

// skip is how far the jumps go whose targets step looks at.
const skip = 2

// after is what is known behind an instruction.
type after struct {
	next, target       api.Shape // at the next position, and at that behind skip more
	isNext, isAtTarget bool
	safe               bool
}

// goesOn is what is known behind an instruction that only the next position
// follows.
func goesOn(s api.Shape) after { return after{next: s, isNext: true, safe: true} }

// step asks what is known behind i in a function where just the registers in
// set are set, with the bounds r. The others are functions behind it.
func step(t *testing.T, set bools, r ends, i api.Inst, l []api.Schema, others ...api.Fn) after {
	t.Helper()
	pre := given(set, r)
	at := len(pre)
	p := program(append([]api.Fn{fn(0, join(pre, code(i), five(), five())...)}, others...)...)
	s, known, e := verify.Shapes(p, 0, l)
	if e == api.ErrSafe && len(s) == 0 && len(known) == 0 {
		return after{}
	}
	if e != api.OK || len(s) != at+5 || len(known) != at+5 || !known[at] || s[at] != shapeOf(set, r) {
		t.Fatalf("%+v with %v: Shapes is %v, %v, %d", i, shapeOf(set, r), s, known, e)
	}
	if i.Op != api.OpJump && known[at+1+skip] {
		t.Fatalf("%+v with %v: something is known behind the end", i, shapeOf(set, r))
	}
	return after{next: s[at+1], isNext: known[at+1], target: s[at+1+skip], isAtTarget: known[at+1+skip], safe: true}
}

func checkStep(t *testing.T, set bools, r ends, i api.Inst, want after) {
	t.Helper()
	if got := step(t, set, r, i, maps()); got != want {
		t.Errorf("%+v with %v: %+v; want %+v", i, shapeOf(set, r), got, want)
	}
}

// spread are bounds that differ for each register.
func spread() ends {
	return ends{3 + 3i, 10 + 10i, 0, 5 + 5i, complex(top, top), 7 + 7i, 12 + 12i, 1 + 1i}
}

// some are bounds of several extents.
func some() []complex128 {
	return []complex128{0, 1i, 3 + 3i, 3 + 9i, 4 + 6i, 7 + 7i, 10 + 20i, 31 + 33i, complex(0, top-1), complex(1<<31, 1<<31), complex(1<<31-1, top), complex(top, top), all}
}

// P11.1: OpAlu computes with the bounds of Dst and of the operand.
func TestCompute(t *testing.T) {
	set := bools{2: true, 4: true, 6: true}
	for op := range api.Alus {
		for _, a := range some() {
			for _, b := range some() {
				r := ends{2: a, 4: 9 + 9i, 6: b}
				want := with(shapeOf(set, r), 2, bounds.Alu(op, a, b))
				checkStep(t, set, r, by(6, compute(op, 2, 0)), goesOn(want))
				if low, high, _ := bounds.Ends(b); low == high {
					checkStep(t, set, r, compute(op, 2, low), goesOn(want))
				}
			}
			r := ends{2: a, 4: 9 + 9i, 6: 3 + 8i}
			want := with(shapeOf(set, r), 2, bounds.Alu(op, a, a))
			checkStep(t, set, r, by(2, compute(op, 2, 0)), goesOn(want))
		}
	}
}

// P11.1: some of these by hand.
func TestComputeByHand(t *testing.T) {
	set, r := bools{1: true, 2: true}, ends{1: 1 + 3i, 2: 10 + 20i}
	for op, want := range [api.Alus]complex128{
		api.Mov: 10 + 20i, api.Add: 11 + 23i, api.Sub: all, api.Mul: 10 + 60i, api.Div: 0, api.Mod: 1 + 3i,
		api.And: 3i, api.Or: 10 + 31i, api.Xor: 31i, api.Shl: all, api.Shr: 3i,
	} {
		checkStep(t, set, r, by(2, compute(op, 1, 0)), goesOn(with(shapeOf(set, r), 1, want)))
	}
	for op, want := range [api.Alus]complex128{
		api.Mov: 1 + 3i, api.Add: 11 + 23i, api.Sub: 7 + 19i, api.Mul: 10 + 60i, api.Div: 3 + 20i, api.Mod: 2i,
		api.And: 3i, api.Or: 10 + 31i, api.Xor: 31i, api.Shl: all, api.Shr: 20i,
	} {
		checkStep(t, set, r, by(1, compute(op, 2, 0)), goesOn(with(shapeOf(set, r), 2, want)))
	}
}

// P11.1: of OpAlu, the operand is known and Dst is set, but for Mov.
func TestComputeOfAllSets(t *testing.T) {
	for _, set := range subsets() {
		s := shapeOf(set, spread())
		for op := range api.Alus {
			for dst := range api.Regs {
				i := compute(op, dst, 6)
				want := after{}
				if set[dst] || op == api.Mov {
					want = goesOn(with(s, dst, bounds.Alu(op, s.R[dst], 6+6i)))
				}
				checkStep(t, set, spread(), i, want)
				src := (dst + op) % api.Regs
				want = after{}
				if set[src] && (set[dst] || op == api.Mov) {
					want = goesOn(with(s, dst, bounds.Alu(op, s.R[dst], s.R[src])))
				}
				checkStep(t, set, spread(), by(src, i), want)
			}
		}
	}
}

// otherwise returns what holds if a comparison does not.
func otherwise(cond int) int {
	switch cond {
	case api.Eq:
		return api.Ne
	case api.Ne:
		return api.Eq
	case api.Lt:
		return api.Ge
	}
	return api.Lt
}

// branches is what is known behind a conditional jump.
func branches(s api.Shape, cond, dst int, a, b complex128) after {
	w := after{safe: true}
	if cut, ok := bounds.Cut(cond, a, b); ok {
		w.target, w.isAtTarget = with(s, dst, cut), true
	}
	if cut, ok := bounds.Cut(otherwise(cond), a, b); ok {
		w.next, w.isNext = with(s, dst, cut), true
	}
	return w
}

// P11.1: a conditional jump cuts Dst at its target, and by the opposite
// comparison at the next position; nothing is known where nothing is left.
func TestJump(t *testing.T) {
	set := bools{0: true, 5: true, 7: true}
	for cond := api.Eq; cond < api.Conds; cond++ {
		for _, a := range some() {
			for _, b := range some() {
				r := ends{0: 9 + 9i, 5: b, 7: a}
				want := branches(shapeOf(set, r), cond, 7, a, b)
				checkStep(t, set, r, by(5, jump(cond, 7, 0, skip)), want)
				if low, high, _ := bounds.Ends(b); low == high {
					checkStep(t, set, r, jump(cond, 7, low, skip), want)
				}
			}
			r := ends{0: 9 + 9i, 5: 3 + 8i, 7: a}
			checkStep(t, set, r, by(7, jump(cond, 7, 0, skip)), branches(shapeOf(set, r), cond, 7, a, a))
		}
	}
}

// P11.1: some of these by hand. The bounds of the operand's register stay.
func TestJumpByHand(t *testing.T) {
	set := bools{1: true, 2: true}
	for _, c := range []struct {
		cond         int
		a, b         complex128
		target, next complex128 // -1: nothing is known
	}{
		{api.Lt, 9i, 4 + 6i, 5i, 4 + 9i},
		{api.Ge, 9i, 4 + 6i, 4 + 9i, 5i},
		{api.Eq, 9i, 4 + 6i, 4 + 6i, 9i},
		{api.Ne, 9i, 4 + 6i, 9i, 4 + 6i},
		{api.Eq, 9i, 9 + 9i, 9 + 9i, 8i},
		{api.Ne, 9i, 0, 1 + 9i, 0},
		{api.Eq, 5 + 5i, 5 + 5i, 5 + 5i, -1},
		{api.Ne, 5 + 5i, 5 + 5i, -1, 5 + 5i},
		{api.Eq, 5 + 6i, 7 + 8i, -1, 5 + 6i},
		{api.Ne, 5 + 6i, 7 + 8i, 5 + 6i, -1},
		{api.Lt, 5 + 6i, 7 + 8i, 5 + 6i, -1},
		{api.Ge, 5 + 6i, 7 + 8i, -1, 5 + 6i},
		{api.Lt, 5 + 6i, 0, -1, 5 + 6i},
		{api.Ge, 5 + 6i, 5i, 5 + 6i, -1},
		{api.Lt, 5 + 6i, 5 + 5i, -1, 5 + 6i},
		{api.Lt, all, complex(top, top), complex(0, top-1), complex(top, top)},
	} {
		r := ends{1: c.a, 2: c.b}
		s := shapeOf(set, r)
		want := after{safe: true}
		if c.target != -1 {
			want.target, want.isAtTarget = with(s, 1, c.target), true
		}
		if c.next != -1 {
			want.next, want.isNext = with(s, 1, c.next), true
		}
		checkStep(t, set, r, by(2, jump(c.cond, 1, 0, skip)), want)
	}
}

// P11.1: of a conditional jump, Dst is set and the operand is known.
func TestJumpOfAllSets(t *testing.T) {
	for _, set := range subsets() {
		s := shapeOf(set, spread())
		for cond := api.Eq; cond < api.Conds; cond++ {
			for dst := range api.Regs {
				want := after{}
				if set[dst] {
					want = branches(s, cond, dst, s.R[dst], 6+6i)
				}
				checkStep(t, set, spread(), jump(cond, dst, 6, skip), want)
				src := (dst + cond) % api.Regs
				want = after{}
				if set[dst] && set[src] {
					want = branches(s, cond, dst, s.R[dst], s.R[src])
				}
				checkStep(t, set, spread(), by(src, jump(cond, dst, 0, skip)), want)
			}
		}
	}
}

// P11.1: a jump with Always reads no register, and leaves only its target.
func TestAlways(t *testing.T) {
	for _, set := range subsets() {
		s := shapeOf(set, spread())
		checkStep(t, set, spread(), always(skip), after{target: s, isAtTarget: true, safe: true})
		checkStep(t, set, spread(), always(0), goesOn(s))
	}
}

// P11.1: both ways of a jump to the next position are joined there.
func TestJumpToTheNext(t *testing.T) {
	set := bools{3: true, 4: true}
	for cond := api.Eq; cond < api.Conds; cond++ {
		for _, a := range some() {
			for _, b := range some() {
				r := ends{3: a, 4: b}
				w := branches(shapeOf(set, r), cond, 3, a, b)
				var want complex128
				switch {
				case w.isNext && w.isAtTarget:
					want = bounds.Join(w.next.R[3], w.target.R[3])
				case w.isNext:
					want = w.next.R[3]
				default:
					want = w.target.R[3]
				}
				checkStep(t, set, r, by(4, jump(cond, 3, 0, 0)), goesOn(with(shapeOf(set, r), 3, want)))
			}
		}
	}
}

// limits tells how many words OpCtx, OpLoad and OpStore can reach.
var limits = map[int]uint32{api.OpCtx: 4, api.OpLoad: 16, api.OpStore: 16}

// access is what is known behind one of these, if it is safe.
func access(s api.Shape, i api.Inst) after {
	if i.Op == api.OpStore {
		return goesOn(s)
	}
	return goesOn(with(s, i.Dst, all))
}

// P11.1: the operand of OpCtx is within 4, those of OpLoad and OpStore within 16.
func TestIndexes(t *testing.T) {
	set := bools{2: true, 6: true}
	for op, limit := range limits {
		for _, index := range []uint32{0, 1, 2, 3, 4, 5, 14, 15, 16, 17, 64, 255, 256, 1 << 16, 1<<31 - 1, 1 << 31, 1<<31 + 1, top - 1, top} {
			for _, low := range []uint32{0, 1, 3, 4, 15, index} {
				r := ends{2: bounds.Of(low, index), 6: 5 + 9i}
				want := after{}
				i := api.Inst{Op: op, Dst: 6, Reg: true, Src: 2}
				if low < limit && index < limit {
					want = access(shapeOf(set, r), i)
				}
				checkStep(t, set, r, i, want)
				if low == index {
					i = api.Inst{Op: op, Dst: 6, Imm: index}
					checkStep(t, set, r, i, want)
				}
			}
		}
	}
}

// P11.1: OpCtx and OpLoad set Dst, OpStore reads it; the operand is known.
func TestAccessOfAllSets(t *testing.T) {
	r := ends{1, 2, 0, 3, 3, 2, 1, 0}
	for n := range r {
		r[n] = complex(real(r[n]), real(r[n]))
	}
	for _, set := range subsets() {
		s := shapeOf(set, r)
		for op := range limits {
			for dst := range api.Regs {
				i := api.Inst{Op: op, Dst: dst, Imm: 1}
				want := after{}
				if set[dst] || op != api.OpStore {
					want = access(s, i)
				}
				checkStep(t, set, r, i, want)
				for _, src := range []int{dst, (dst + 1) % api.Regs, (dst + 6) % api.Regs} {
					want = after{}
					if set[src] && (set[dst] || op != api.OpStore) {
						want = access(s, i)
					}
					checkStep(t, set, r, by(src, i), want)
				}
			}
		}
	}
}

// P11.1: the stack is not known: what was stored is loaded as any word.
func TestStack(t *testing.T) {
	s := with(api.Shape{}, 0, 5+5i)
	checkShapes(t, "stack", alone(mov(0, 5), store(0, 2), load(1, 2), exit()), 0,
		[]api.Shape{{}, s, s, with(s, 1, all)}, "1111")
}

// P11.1: at the end, register 0 is set.
func TestExitOfAllSets(t *testing.T) {
	for _, set := range subsets() {
		want := after{safe: set[0]}
		checkStep(t, set, spread(), exit(), want)
	}
}

// P11.1: each kind of instruction, jumps that may go on among them, is unsafe at
// the end, whichever registers are set.
func TestBeyondTheEnd(t *testing.T) {
	set := bools{true, true, true, true, true, true, true, true}
	pre := given(set, ends{})
	last := code(mov(0, 1), by(1, compute(api.Add, 0, 0)), always(0), always(1), always(api.MaxOff), context(0, 0), load(0, 0), store(0, 0),
		help(api.HelpDraw), help(api.HelpGet), call(1))
	for cond := api.Eq; cond < api.Conds; cond++ {
		last = append(last, jump(cond, 0, 0, 0), jump(cond, 0, 1, 0), jump(cond, 0, 0, 3), jump(cond, 0, 1, api.MaxOff))
	}
	for _, i := range last {
		name := fmt.Sprintf("%+v", i)
		p := program(fn(0, append(pre, i)...), fn(0, five()...))
		checkError(t, name, p, 0, maps(), api.ErrSafe)
		checkVerify(t, name, p, maps(), 0, api.ErrSafe)
		p.Fns[0].Code = slices.Repeat(code(i), api.MaxCode)
		if i.Op != api.OpAlu && i.Op != api.OpJump {
			continue
		}
		p.Fns[0].Code[0] = mov(0, 1)
		p.Fns[0].Code[1] = mov(1, 1)
		checkError(t, name+" in the greatest code", p, 0, maps(), api.ErrSafe)
	}
}

// P11.1: a jump beyond the end, near and far, by which something is known there.
func TestJumpsBeyondTheEnd(t *testing.T) {
	for _, off := range []int{2, 3, 4, 255, 256, api.MaxOff - 1, api.MaxOff} {
		for _, i := range code(always(off), jump(api.Eq, 0, 5, off), jump(api.Ne, 0, 6, off), jump(api.Lt, 0, 6, off), jump(api.Ge, 0, 5, off), jump(api.Ne, 1, 77, off)) {
			p := alone(context(1, 0), mov(0, 5), i, mov(0, 6), exit())
			checkError(t, fmt.Sprintf("%+v", i), p, 0, nil, api.ErrSafe)
			i.Off = 1
			p.Fns[0].Code[2] = i
			if _, _, e := verify.Shapes(p, 0, nil); e != api.OK {
				t.Errorf("%+v: Shapes is %d", i, e)
			}
		}
		for _, i := range neverTaken(off) {
			s := with(api.Shape{}, 0, 5+5i)
			checkShapes(t, fmt.Sprintf("%+v", i), alone(mov(0, 5), i, exit()), 0, []api.Shape{{}, s, s}, "111")
		}
	}
}
