package shape_test

import (
	"fmt"
	"testing"

	"drydock/api"
	"drydock/inst"
	"drydock/shape"
)

// like returns an instruction of each kind that may have an operand in a
// register, with this one.
func like(reg bool, src int, imm uint32) []api.Inst {
	var l []api.Inst
	for fn := range api.Alus {
		l = append(l, api.Inst{Op: api.OpAlu, Fn: fn})
	}
	for fn := api.Eq; fn < api.Conds; fn++ {
		l = append(l, api.Inst{Op: api.OpJump, Fn: fn, Off: 3}, api.Inst{Op: api.OpJump, Fn: fn, Off: api.MaxOff})
	}
	l = append(l, api.Inst{Op: api.OpCtx}, api.Inst{Op: api.OpLoad}, api.Inst{Op: api.OpStore})
	for k := range l {
		l[k].Dst, l[k].Reg, l[k].Src, l[k].Imm = k%api.Regs, reg, src, imm
	}
	return l
}

// operands returns valid instructions with operands of both kinds.
func operands() []api.Inst {
	l := append(like(false, 0, 0), like(false, 0, 77)...)
	for n := range registers {
		l = append(l, like(true, n, 0)...)
	}
	return append(l,
		api.Inst{Op: api.OpJump}, api.Inst{Op: api.OpJump, Off: 9},
		api.Inst{Op: api.OpHelp, Imm: api.HelpHas}, api.Inst{Op: api.OpCall, Imm: 1}, api.Inst{Op: api.OpExit},
	)
}

// wrongInsts returns instructions that are not valid, for one reason each.
func wrongInsts() []api.Inst {
	l := []api.Inst{
		{Op: -1}, {Op: api.Ops}, {Op: api.Ops + 256}, {Fn: -1}, {Fn: api.Alus}, {Op: api.OpJump, Fn: api.Conds}, {Op: api.OpLoad, Fn: 1},
		{Off: 1}, {Op: api.OpJump, Fn: api.Eq, Off: -1}, {Op: api.OpJump, Fn: api.Eq, Off: api.MaxOff + 1}, {Op: api.OpExit, Off: 1},
		{Op: api.OpJump, Imm: 1}, {Op: api.OpJump, Dst: 1}, {Op: api.OpJump, Reg: true},
		{Op: api.OpHelp, Reg: true}, {Op: api.OpHelp, Dst: 1}, {Op: api.OpCall, Reg: true}, {Op: api.OpCall, Src: 1}, {Op: api.OpExit, Imm: 1}, {Op: api.OpExit, Reg: true},
		{Src: 1}, {Src: 1, Imm: 5}, {Reg: true, Imm: 1}, {Reg: true, Src: 2, Imm: top}, {Op: api.OpCtx, Reg: true, Src: 3, Imm: 1},
	}
	for _, n := range strange() {
		l = append(l, api.Inst{Reg: true, Src: n}, api.Inst{Src: n}, api.Inst{Dst: n}, api.Inst{Dst: n, Reg: true}, api.Inst{Op: n})
	}
	return l
}

// P10.2: of an operand that is no register, the word itself is known, whatever
// is known of registers.
func TestWordOfImm(t *testing.T) {
	for _, s := range []api.Shape{{}, shapeOf(bools{0: true}, spread()), shapeOf(bools{true, true, true, true, true, true, true, true}, spread())} {
		for _, imm := range []uint32{0, 1, 2, 77, 255, 256, 65536, 1<<31 - 1, 1 << 31, top - 1, top} {
			for _, i := range like(false, 0, imm) {
				want := complex(float64(imm), float64(imm))
				if b, ok := shape.Word(s, i); b != want || !ok {
					t.Errorf("Word(%v, %+v) is %v, %v; want %v, true", s, i, b, ok, want)
				}
			}
		}
	}
}

// P10.2: of one that is a register, its bounds are known, if it is set.
func TestWordOfRegister(t *testing.T) {
	for _, set := range subsets() {
		s := shapeOf(set, spread())
		for n := range registers {
			want := complex128(0)
			if set[n] {
				want = spread()[n]
			}
			for _, i := range like(true, n, 0) {
				if b, ok := shape.Word(s, i); b != want || ok != set[n] {
					t.Errorf("Word(%v, %+v) is %v, %v; want %v, %v", s, i, b, ok, want, set[n])
				}
			}
		}
	}
}

// P10.2: every valid instruction has an operand, also one that reads none.
func TestWordOfTheOthers(t *testing.T) {
	cases := []struct {
		i    api.Inst
		want complex128
	}{
		{api.Inst{Op: api.OpJump}, 0},
		{api.Inst{Op: api.OpJump, Off: 9}, 0},
		{api.Inst{Op: api.OpHelp, Imm: api.HelpPush}, 5 + 5i},
		{api.Inst{Op: api.OpHelp, Imm: 600}, 600 + 600i},
		{api.Inst{Op: api.OpCall, Imm: 3}, 3 + 3i},
		{api.Inst{Op: api.OpCall, Imm: top}, complex(top, top)},
		{api.Inst{Op: api.OpExit}, 0},
	}
	for _, c := range cases {
		for _, s := range []api.Shape{{}, shapeOf(bools{0: true, 1: true}, spread())} {
			if b, ok := shape.Word(s, c.i); b != c.want || !ok {
				t.Errorf("Word(%v, %+v) is %v, %v; want %v, true", s, c.i, b, ok, c.want)
			}
		}
	}
}

// P10.2, P1: an instruction that is not valid has no operand.
func TestWordOfWrongInstructions(t *testing.T) {
	for _, i := range wrongInsts() {
		if inst.May(i) {
			t.Fatalf("%+v is valid", i)
		}
		for _, set := range subsets() {
			s := shapeOf(set, spread())
			if b, ok := shape.Word(s, i); b != 0 || ok {
				t.Errorf("Word(%v, %+v) is %v, %v; want 0, false", s, i, b, ok)
			}
		}
	}
}

// The document's examples.
func TestExamples(t *testing.T) {
	s, _ := shape.New(2)
	if want := (bools{1: true, 2: true}); s.Set != want {
		t.Errorf("New(2) is %v", s)
	}
	if got, want := fmt.Sprint(shape.Back(s)), fmt.Sprint(api.Shape{Set: bools{true}, R: ends{all}}); got != want {
		t.Errorf("Back is %v; want %v", got, want)
	}
}
