package isa_test

import (
	"math"
	"testing"

	"drydock/api"
	"drydock/isa"
)

const top = math.MaxUint32

// sample is an instruction and an address that it may have, the machine code
// and the machine word, and the instruction that the word yields.
type sample struct {
	name string
	i    api.Inst
	to   int
	code int
	w    uint64
	back api.Inst
}

// same is a sample whose word yields the instruction itself.
func same(name string, i api.Inst, to, code int, w uint64) sample {
	return sample{name, i, to, code, w, i}
}

// samples have every machine code, the parts at the ends of their ranges, and
// words worked out by hand: two hexadecimal digits for the zero bits, two for
// the machine code, four for Dst (8192 each), Src (1024 each) and the address,
// and eight for Imm.
func samples() []sample {
	call := api.Inst{Op: api.OpCall}
	eq := api.Inst{Op: api.OpJump, Fn: api.Eq}
	return []sample{
		same("the zero value", api.Inst{}, 0, 0, 0),
		same("mov, last Dst, greatest Imm", api.Inst{Op: api.OpAlu, Fn: api.Mov, Dst: 7, Imm: top}, 0, 0, 0x0000_e000_ffff_ffff),
		same("mov, the order of Imm's bits", api.Inst{Op: api.OpAlu, Fn: api.Mov, Dst: 1, Imm: 0x01020304}, 0, 0, 0x0000_2000_0102_0304),
		same("mov, Reg, Src 0", api.Inst{Op: api.OpAlu, Fn: api.Mov, Reg: true}, 0, 1, 0x0001_0000_0000_0000),
		same("mov, Reg, Dst and Src", api.Inst{Op: api.OpAlu, Fn: api.Mov, Dst: 3, Src: 5, Reg: true}, 0, 1, 0x0001_7400_0000_0000),
		same("mov, Reg, last Dst and Src", api.Inst{Op: api.OpAlu, Fn: api.Mov, Dst: 7, Src: 7, Reg: true}, 0, 1, 0x0001_fc00_0000_0000),
		same("add", api.Inst{Op: api.OpAlu, Fn: api.Add, Dst: 2, Imm: 5}, 0, 2, 0x0002_4000_0000_0005),
		same("add, Reg", api.Inst{Op: api.OpAlu, Fn: api.Add, Src: 1, Reg: true}, 0, 3, 0x0003_0400_0000_0000),
		same("sub", api.Inst{Op: api.OpAlu, Fn: api.Sub, Dst: 4}, 0, 4, 0x0004_8000_0000_0000),
		same("sub, Reg", api.Inst{Op: api.OpAlu, Fn: api.Sub, Src: 2, Reg: true}, 0, 5, 0x0005_0800_0000_0000),
		same("mul", api.Inst{Op: api.OpAlu, Fn: api.Mul, Imm: 1}, 0, 6, 0x0006_0000_0000_0001),
		same("mul, Reg", api.Inst{Op: api.OpAlu, Fn: api.Mul, Src: 4, Reg: true}, 0, 7, 0x0007_1000_0000_0000),
		same("div", api.Inst{Op: api.OpAlu, Fn: api.Div, Imm: 1 << 31}, 0, 8, 0x0008_0000_8000_0000),
		same("div, Reg", api.Inst{Op: api.OpAlu, Fn: api.Div, Dst: 1, Reg: true}, 0, 9, 0x0009_2000_0000_0000),
		same("mod", api.Inst{Op: api.OpAlu, Fn: api.Mod, Dst: 5}, 0, 10, 0x000a_a000_0000_0000),
		same("mod, Reg", api.Inst{Op: api.OpAlu, Fn: api.Mod, Src: 7, Reg: true}, 0, 11, 0x000b_1c00_0000_0000),
		same("and", api.Inst{Op: api.OpAlu, Fn: api.And}, 0, 12, 0x000c_0000_0000_0000),
		same("and, Reg", api.Inst{Op: api.OpAlu, Fn: api.And, Reg: true}, 0, 13, 0x000d_0000_0000_0000),
		same("or", api.Inst{Op: api.OpAlu, Fn: api.Or}, 0, 14, 0x000e_0000_0000_0000),
		same("or, Reg", api.Inst{Op: api.OpAlu, Fn: api.Or, Reg: true}, 0, 15, 0x000f_0000_0000_0000),
		same("xor", api.Inst{Op: api.OpAlu, Fn: api.Xor}, 0, 16, 0x0010_0000_0000_0000),
		same("xor, Reg", api.Inst{Op: api.OpAlu, Fn: api.Xor, Reg: true}, 0, 17, 0x0011_0000_0000_0000),
		same("shl", api.Inst{Op: api.OpAlu, Fn: api.Shl}, 0, 18, 0x0012_0000_0000_0000),
		same("shl, Reg", api.Inst{Op: api.OpAlu, Fn: api.Shl, Reg: true}, 0, 19, 0x0013_0000_0000_0000),
		same("shr", api.Inst{Op: api.OpAlu, Fn: api.Shr, Dst: 7}, 0, 20, 0x0014_e000_0000_0000),
		same("shr, Reg", api.Inst{Op: api.OpAlu, Fn: api.Shr, Dst: 7, Src: 1, Reg: true}, 0, 21, 0x0015_e400_0000_0000),

		same("always, address 0", api.Inst{Op: api.OpJump, Fn: api.Always}, 0, 22, 0x0016_0000_0000_0000),
		same("always, greatest address", api.Inst{Op: api.OpJump, Fn: api.Always}, 1023, 22, 0x0016_03ff_0000_0000),
		same("always, the order of the address's bits", api.Inst{Op: api.OpJump, Fn: api.Always}, 0x102, 22, 0x0016_0102_0000_0000),
		{"always, Off", api.Inst{Op: api.OpJump, Fn: api.Always, Off: 65535}, 1, 22, 0x0016_0001_0000_0000, api.Inst{Op: api.OpJump}},
		same("eq, zeros", eq, 0, 23, 0x0017_0000_0000_0000),
		same("eq", api.Inst{Op: api.OpJump, Fn: api.Eq, Dst: 1, Imm: top}, 5, 23, 0x0017_2005_ffff_ffff),
		{"eq, Off", api.Inst{Op: api.OpJump, Fn: api.Eq, Off: 4}, 7, 23, 0x0017_0007_0000_0000, eq},
		same("eq, Reg", api.Inst{Op: api.OpJump, Fn: api.Eq, Src: 7, Reg: true}, 512, 24, 0x0018_1e00_0000_0000),
		same("ne", api.Inst{Op: api.OpJump, Fn: api.Ne, Dst: 6, Imm: 9}, 3, 25, 0x0019_c003_0000_0009),
		same("ne, Reg", api.Inst{Op: api.OpJump, Fn: api.Ne, Dst: 6, Src: 1, Reg: true}, 0, 26, 0x001a_c400_0000_0000),
		same("lt", api.Inst{Op: api.OpJump, Fn: api.Lt, Imm: 1}, 1, 27, 0x001b_0001_0000_0001),
		same("lt, Reg", api.Inst{Op: api.OpJump, Fn: api.Lt, Dst: 1, Src: 1, Reg: true}, 1, 28, 0x001c_2401_0000_0000),
		same("ge, all at the end", api.Inst{Op: api.OpJump, Fn: api.Ge, Dst: 7, Imm: top}, 1023, 29, 0x001d_e3ff_ffff_ffff),
		same("ge, Reg, all at the end", api.Inst{Op: api.OpJump, Fn: api.Ge, Dst: 7, Src: 7, Reg: true}, 1023, 30, 0x001e_ffff_0000_0000),

		same("ctx", api.Inst{Op: api.OpCtx, Dst: 1, Imm: 2}, 0, 31, 0x001f_2000_0000_0002),
		same("ctx, an index that no context has", api.Inst{Op: api.OpCtx, Imm: top}, 0, 31, 0x001f_0000_ffff_ffff),
		same("ctx, Reg", api.Inst{Op: api.OpCtx, Dst: 7, Src: 2, Reg: true}, 0, 32, 0x0020_e800_0000_0000),
		same("load", api.Inst{Op: api.OpLoad, Dst: 2, Imm: 15}, 0, 33, 0x0021_4000_0000_000f),
		same("load, Reg", api.Inst{Op: api.OpLoad, Dst: 1, Src: 2, Reg: true}, 0, 34, 0x0022_2800_0000_0000),
		same("store", api.Inst{Op: api.OpStore, Dst: 7}, 0, 35, 0x0023_e000_0000_0000),
		same("store, Reg", api.Inst{Op: api.OpStore, Dst: 7, Src: 7, Reg: true}, 0, 36, 0x0024_fc00_0000_0000),

		same("help, first", api.Inst{Op: api.OpHelp, Imm: api.HelpGet}, 0, 37, 0x0025_0000_0000_0000),
		same("help, last", api.Inst{Op: api.OpHelp, Imm: api.HelpPush}, 0, 37, 0x0025_0000_0000_0005),
		same("help, greatest Imm", api.Inst{Op: api.OpHelp, Imm: top}, 0, 37, 0x0025_0000_ffff_ffff),
		same("call, address 0", call, 0, 38, 0x0026_0000_0000_0000),
		same("call, greatest address", call, 1023, 38, 0x0026_03ff_0000_0000),
		{"call, Imm", api.Inst{Op: api.OpCall, Imm: 4}, 7, 38, 0x0026_0007_0000_0000, call},
		{"call, greatest Imm", api.Inst{Op: api.OpCall, Imm: top}, 0, 38, 0x0026_0000_0000_0000, call},
		same("exit", api.Inst{Op: api.OpExit}, 0, 39, 39*(1<<48)),
	}
}

// P12.1, P12.2: the constants are the numbers that the chapter speaks of.
func TestNumbers(t *testing.T) {
	if api.Codes != 40 || api.MaxAddr != 1023 {
		t.Errorf("Codes is %d and MaxAddr %d; want 40 and 1023", api.Codes, api.MaxAddr)
	}
}

// P12.1: Code returns the machine codes, all of them.
func TestCode(t *testing.T) {
	met := [api.Codes]bool{}
	for _, s := range samples() {
		code, ok := isa.Code(s.i)
		if code != s.code || !ok {
			t.Errorf("%s: Code is %d, %v; want %d, true", s.name, code, ok, s.code)
			continue
		}
		met[code] = true
	}
	for code, ok := range met {
		if !ok {
			t.Errorf("no sample has the machine code %d", code)
		}
	}
}

// P12.1: Put returns the machine words.
func TestPut(t *testing.T) {
	for _, s := range samples() {
		if w, e := isa.Put(s.i, s.to); w != s.w || e != api.OK {
			t.Errorf("%s: Put is %#x, %d; want %#x, 0", s.name, w, e, s.w)
		}
	}
}

// P12.2: Get returns the instructions and the addresses of machine words.
func TestGet(t *testing.T) {
	for _, s := range samples() {
		if i, to, e := isa.Get(s.w); i != s.back || to != s.to || e != api.OK {
			t.Errorf("%s: Get is %+v, %d, %d; want %+v, %d, 0", s.name, i, to, e, s.back, s.to)
		}
	}
}

// P12.1: neither the machine code nor the word tells Off, or what a call names.
func TestWhatIsNotEncoded(t *testing.T) {
	for _, i := range []api.Inst{
		{Op: api.OpJump},
		{Op: api.OpJump, Fn: api.Ne, Dst: 7, Imm: 9},
		{Op: api.OpJump, Fn: api.Ge, Dst: 1, Src: 7, Reg: true},
	} {
		want, _ := isa.Put(i, 600)
		for off := range api.MaxOff + 1 {
			i.Off = off
			if w, e := isa.Put(i, 600); w != want || e != api.OK {
				t.Fatalf("Put(%+v, 600) is %#x, %d; want %#x, 0", i, w, e, want)
			}
		}
	}
	for bit := range 32 {
		i := api.Inst{Op: api.OpCall, Imm: 1 << bit}
		if w, e := isa.Put(i, 600); w != 38<<48|600<<32 || e != api.OK {
			t.Errorf("Put(%+v, 600) is %#x, %d", i, w, e)
		}
	}
}

func checkRefused(t *testing.T, name string, i api.Inst, to int) {
	t.Helper()
	if w, e := isa.Put(i, to); w != 0 || e != api.ErrArg {
		t.Errorf("%s: Put(%+v, %d) is %#x, %d; want 0, %d", name, i, to, w, e, api.ErrArg)
	}
}

// far are numbers that no part may be, also those that are small in fewer bits.
func far() []int {
	return []int{
		math.MinInt, math.MinInt + 1, math.MinInt32, -65536, -1024, -1,
		1 << 16, 1 << 17, math.MaxInt32, 1 << 32, 1<<32 + 1, 1 << 40, math.MaxInt,
	}
}

// P12.1, P1: instructions that are not valid have no code and no word.
func TestInvalidInstructions(t *testing.T) {
	invalid := []api.Inst{
		{Op: api.Ops},
		{Op: api.OpAlu, Fn: api.Alus},
		{Op: api.OpJump, Fn: api.Conds},
		{Op: api.OpCtx, Fn: 1},
		{Dst: api.Regs},
		{Src: 1},
		{Src: api.Regs, Reg: true},
		{Reg: true, Imm: 1},
		{Off: 1},
		{Op: api.OpJump, Off: api.MaxOff + 1},
		{Op: api.OpJump, Reg: true},
		{Op: api.OpJump, Dst: 1},
		{Op: api.OpJump, Imm: 1},
		{Op: api.OpHelp, Reg: true},
		{Op: api.OpHelp, Dst: 1},
		{Op: api.OpCall, Reg: true},
		{Op: api.OpCall, Off: 1},
		{Op: api.OpCall, Src: 1},
		{Op: api.OpExit, Reg: true},
		{Op: api.OpExit, Imm: 1},
	}
	for _, s := range samples() {
		for _, n := range far() {
			op, fn, dst, src, off := s.i, s.i, s.i, s.i, s.i
			op.Op, fn.Fn, dst.Dst, src.Src, off.Off = n, n, n, n, n
			invalid = append(invalid, op, fn, dst, src, off)
		}
	}
	for _, i := range invalid {
		if code, ok := isa.Code(i); code != 0 || ok {
			t.Errorf("Code(%+v) is %d, %v; want 0, false", i, code, ok)
		}
		for _, to := range []int{0, 1, -1, 1023, 1024} {
			checkRefused(t, "not valid", i, to)
		}
	}
}

// P12.1, P1: jumps and calls have an address of the memory, all others 0.
func TestAddresses(t *testing.T) {
	for _, s := range samples() {
		moves := s.i.Op == api.OpJump || s.i.Op == api.OpCall
		for to := -2; to <= api.MaxAddr+2; to++ {
			if to != 0 && !moves || to < 0 || to > 1023 {
				checkRefused(t, s.name, s.i, to)
				continue
			}
			want := s.w - uint64(s.to)<<32 + uint64(to)<<32
			if w, e := isa.Put(s.i, to); w != want || e != api.OK {
				t.Errorf("%s: Put(%+v, %d) is %#x, %d; want %#x, 0", s.name, s.i, to, w, e, want)
			}
		}
		for _, to := range append(far(), 2048, 4096) {
			checkRefused(t, s.name, s.i, to)
		}
	}
}

// P12.2, P1: words that are not the machine word of any instruction.
func TestInvalidWords(t *testing.T) {
	cases := []struct {
		name string
		w    uint64
	}{
		{"the first machine code that there is not", 40 << 48},
		{"the last machine code of eight bits", 255 << 48},
		{"the lowest zero bit", 1 << 56},
		{"the highest zero bit", 1 << 63},
		{"a zero bit beside an exit", 1<<56 | 39<<48},
		{"all bits", math.MaxUint64},
		{"Src without Reg", 1 << 42},
		{"last Src without Reg", 7 << 42},
		{"Reg and Imm", 1<<48 | 5},
		{"Reg and the highest bit of Imm", 1<<48 | 1<<31},
		{"an address of a mov", 1 << 32},
		{"an address of a store", 35<<48 | 1<<41},
		{"an address of a helper", 37<<48 | 1<<32},
		{"an address of an exit", 39<<48 | 1<<32},
		{"always, Dst", 22<<48 | 1<<45},
		{"always, Src", 22<<48 | 1<<42},
		{"always, Imm", 22<<48 | 1},
		{"jump, Src without Reg", 25<<48 | 1<<42},
		{"jump, Reg and Imm", 26<<48 | 1},
		{"load, Reg and Imm", 34<<48 | 1},
		{"help, Dst", 37<<48 | 1<<45},
		{"help, Src", 37<<48 | 1<<42},
		{"call, Dst", 38<<48 | 1<<45},
		{"call, Src", 38<<48 | 1<<42},
		{"call, Imm", 38<<48 | 1},
		{"call, Imm and an address", 38<<48 | 7<<32 | 4},
		{"exit, Dst", 39<<48 | 1<<45},
		{"exit, Src", 39<<48 | 1<<42},
		{"exit, Imm", 39<<48 | 1},
	}
	for _, c := range cases {
		checkNoWord(t, c.name, c.w)
	}
}

func checkNoWord(t *testing.T, name string, w uint64) {
	t.Helper()
	if i, to, e := isa.Get(w); i != (api.Inst{}) || to != 0 || e != api.ErrForm {
		t.Errorf("%s: Get(%#x) is %+v, %d, %d; want the zero value, 0, %d", name, w, i, to, e, api.ErrForm)
	}
}
