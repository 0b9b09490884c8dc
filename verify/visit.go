package verify

import (
	"iter"
	"math"

	"drydock/api"
	"drydock/bounds"
	"drydock/helper"
	"drydock/shape"
)

// The roles of registers.
const (
	result   = 0
	firstArg = 1
	mapArg   = 1
	fieldArg = 3
)

// opposite holds for each comparison but Always the one that holds if it does
// not.
var opposite = [api.Conds]int{api.Eq: api.Ne, api.Ne: api.Eq, api.Lt: api.Ge, api.Ge: api.Lt}

// visit is an instruction with the known shape at its position, in function fn
// of the functions of a valid program, where maps have valid schemas.
type visit struct {
	fns  []api.Fn
	fn   int
	maps []api.Schema
	at   int
	i    api.Inst
	s    api.Shape
}

// successors are positions with the shapes that an instruction yields there.
// One that can't follow is left out.
type successors = iter.Seq2[int, api.Shape]

// kinds returns for each kind of instructions what one of them yields, and
// whether it is safe. An unsafe one yields nothing.
func kinds() map[int]func(visit) (successors, bool) {
	return map[int]func(visit) (successors, bool){
		api.OpAlu:   visit.compute,
		api.OpJump:  visit.jump,
		api.OpCtx:   visit.context,
		api.OpLoad:  visit.load,
		api.OpStore: visit.store,
		api.OpHelp:  visit.help,
		api.OpCall:  visit.call,
		api.OpExit:  visit.exit,
	}
}

func (v visit) compute() (successors, bool) {
	a, ok := shape.Get(v.s, v.i.Dst)
	if v.i.Fn == api.Mov {
		a, ok = all(), true
	}
	b, known := shape.Word(v.s, v.i)
	if !ok || !known {
		return nil, false
	}
	return v.goOn(v.with(bounds.Alu(v.i.Fn, a, b))), true
}

func (v visit) jump() (successors, bool) {
	to := target(v.at, v.i)
	if v.i.Fn == api.Always {
		return only(to, v.s), true
	}
	a, ok := shape.Get(v.s, v.i.Dst)
	b, known := shape.Word(v.s, v.i)
	if !ok || !known {
		return nil, false
	}
	return func(yield func(int, api.Shape) bool) {
		if cut, some := bounds.Cut(v.i.Fn, a, b); some && !yield(to, v.with(cut)) {
			return
		}
		if cut, some := bounds.Cut(opposite[v.i.Fn], a, b); some {
			yield(v.at+1, v.with(cut))
		}
	}, true
}

func (v visit) context() (successors, bool) { return v.read(api.CtxWords) }

func (v visit) load() (successors, bool) { return v.read(api.StackWords) }

// read reads one of as many words.
func (v visit) read(words uint32) (successors, bool) {
	if !v.within(words) {
		return nil, false
	}
	return v.goOn(v.with(all())), true
}

func (v visit) store() (successors, bool) {
	if _, ok := shape.Get(v.s, v.i.Dst); !ok || !v.within(api.StackWords) {
		return nil, false
	}
	return v.goOn(v.s), true
}

func (v visit) help() (successors, bool) {
	n := int(v.i.Imm)
	args := helper.Args(n)
	if args < 0 || !v.hasArgs(args) || n != api.HelpDraw && !v.mapFits(n) {
		return nil, false
	}
	return v.goOn(shape.Back(v.s)), true
}

func (v visit) call() (successors, bool) {
	if uint64(v.i.Imm) >= uint64(len(v.fns)) {
		return nil, false
	}
	fn := int(v.i.Imm)
	if fn <= v.fn || !v.hasArgs(v.fns[fn].Args) {
		return nil, false
	}
	return v.goOn(shape.Back(v.s)), true
}

func (v visit) exit() (successors, bool) {
	if _, ok := shape.Get(v.s, result); !ok {
		return nil, false
	}
	return none(), true
}

// within reports whether the operand is the index of one of as many words.
func (v visit) within(words uint32) bool {
	b, known := shape.Word(v.s, v.i)
	return known && highest(b) < words
}

// hasArgs reports whether as many arguments are set.
func (v visit) hasArgs(count int) bool {
	for k := range count {
		if _, ok := shape.Get(v.s, firstArg+k); !ok {
			return false
		}
	}
	return true
}

// mapFits reports whether helper n, whose arguments are set, can be applied to
// the map that they name.
func (v visit) mapFits(n int) bool {
	b, _ := shape.Get(v.s, mapArg)
	low, high, _ := bounds.Ends(b)
	if low != high || uint64(low) >= uint64(len(v.maps)) {
		return false
	}
	s := v.maps[low]
	if !helper.Fits(n, s) {
		return false
	}
	if n != api.HelpGet && n != api.HelpSet {
		return true
	}
	field, _ := shape.Get(v.s, fieldArg)
	return highest(field) < uint32(s.Words)
}

// with returns the shape with the bounds b of register Dst.
func (v visit) with(b complex128) api.Shape { return shape.Put(v.s, v.i.Dst, b) }

// goOn yields s at the next position.
func (v visit) goOn(s api.Shape) successors { return only(v.at+1, s) }

func only(at int, s api.Shape) successors {
	return func(yield func(int, api.Shape) bool) { yield(at, s) }
}

func none() successors { return func(func(int, api.Shape) bool) {} }

// highest returns the highest word of valid bounds.
func highest(b complex128) uint32 {
	_, high, _ := bounds.Ends(b)
	return high
}

func all() complex128 { return bounds.Of(0, math.MaxUint32) }
