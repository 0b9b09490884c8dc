package inst_test

import (
	"bytes"
	"math"
	"testing"

	"drydock/api"
	"drydock/inst"
)

const top = math.MaxUint32

// sample is a valid instruction and its encoding.
type sample struct {
	name string
	i    api.Inst
	b    []byte
}

// samples are valid instructions of every kind, with and without Reg, with
// their parts at the ends of their ranges, and encodings worked out by hand.
func samples() []sample {
	return []sample{
		{"the document's example", api.Inst{Op: api.OpAlu, Fn: api.Add, Dst: 2, Imm: 5}, []byte{1, 16, 0, 0, 0, 0, 0, 5}},
		{"the zero value", api.Inst{}, []byte{0, 0, 0, 0, 0, 0, 0, 0}},
		{"alu, last Fn, last Dst", api.Inst{Op: api.OpAlu, Fn: api.Shr, Dst: 7, Imm: top}, []byte{10, 56, 0, 0, 255, 255, 255, 255}},
		{"alu, Reg, Src 0", api.Inst{Op: api.OpAlu, Fn: api.Mov, Dst: 3, Reg: true}, []byte{0, 152, 0, 0, 0, 0, 0, 0}},
		{"alu, Reg, last Dst and Src", api.Inst{Op: api.OpAlu, Fn: api.Xor, Dst: 7, Src: 7, Reg: true}, []byte{8, 191, 0, 0, 0, 0, 0, 0}},
		{"alu, the order of Imm's bytes", api.Inst{Op: api.OpAlu, Fn: api.Mul, Dst: 1, Imm: 0x01020304}, []byte{3, 8, 0, 0, 1, 2, 3, 4}},
		{"alu, the top byte of Imm", api.Inst{Op: api.OpAlu, Fn: api.Div, Imm: 1 << 31}, []byte{4, 0, 0, 0, 128, 0, 0, 0}},

		{"always, least Off", api.Inst{Op: api.OpJump, Fn: api.Always}, []byte{16, 0, 0, 0, 0, 0, 0, 0}},
		{"always, greatest Off", api.Inst{Op: api.OpJump, Fn: api.Always, Off: 65535}, []byte{16, 0, 255, 255, 0, 0, 0, 0}},
		{"always, the order of Off's bytes", api.Inst{Op: api.OpJump, Fn: api.Always, Off: 0x0102}, []byte{16, 0, 1, 2, 0, 0, 0, 0}},
		{"jump, first comparison, zeros", api.Inst{Op: api.OpJump, Fn: api.Eq}, []byte{17, 0, 0, 0, 0, 0, 0, 0}},
		{"jump, all at the end", api.Inst{Op: api.OpJump, Fn: api.Ge, Dst: 7, Off: 65535, Imm: top}, []byte{20, 56, 255, 255, 255, 255, 255, 255}},
		{"jump, Reg", api.Inst{Op: api.OpJump, Fn: api.Lt, Dst: 1, Src: 6, Reg: true, Off: 256}, []byte{19, 142, 1, 0, 0, 0, 0, 0}},
		{"jump, Reg, all at the end", api.Inst{Op: api.OpJump, Fn: api.Ge, Dst: 7, Src: 7, Reg: true, Off: 65535}, []byte{20, 191, 255, 255, 0, 0, 0, 0}},

		{"ctx", api.Inst{Op: api.OpCtx, Dst: 4, Imm: 3}, []byte{32, 32, 0, 0, 0, 0, 0, 3}},
		{"ctx, an index that no context has", api.Inst{Op: api.OpCtx, Dst: 7, Imm: top}, []byte{32, 56, 0, 0, 255, 255, 255, 255}},
		{"ctx, Reg", api.Inst{Op: api.OpCtx, Dst: 4, Src: 5, Reg: true}, []byte{32, 165, 0, 0, 0, 0, 0, 0}},
		{"load", api.Inst{Op: api.OpLoad, Dst: 5, Imm: 15}, []byte{48, 40, 0, 0, 0, 0, 0, 15}},
		{"load, Reg", api.Inst{Op: api.OpLoad, Src: 7, Reg: true}, []byte{48, 135, 0, 0, 0, 0, 0, 0}},
		{"store", api.Inst{Op: api.OpStore, Dst: 6, Imm: 256}, []byte{64, 48, 0, 0, 0, 0, 1, 0}},
		{"store, Reg", api.Inst{Op: api.OpStore, Dst: 7, Src: 1, Reg: true}, []byte{64, 185, 0, 0, 0, 0, 0, 0}},

		{"help, first", api.Inst{Op: api.OpHelp, Imm: api.HelpGet}, []byte{80, 0, 0, 0, 0, 0, 0, 0}},
		{"help, greatest Imm", api.Inst{Op: api.OpHelp, Imm: top}, []byte{80, 0, 0, 0, 255, 255, 255, 255}},
		{"call, first", api.Inst{Op: api.OpCall}, []byte{96, 0, 0, 0, 0, 0, 0, 0}},
		{"call, greatest Imm", api.Inst{Op: api.OpCall, Imm: top}, []byte{96, 0, 0, 0, 255, 255, 255, 255}},
		{"exit", api.Inst{Op: api.OpExit}, []byte{112, 0, 0, 0, 0, 0, 0, 0}},
	}
}

// P2.1, P2.2: the constants are the numbers that the chapter speaks of.
func TestNumbers(t *testing.T) {
	ops := []int{
		api.OpAlu, api.OpJump, api.OpCtx, api.OpLoad, api.OpStore, api.OpHelp, api.OpCall, api.OpExit,
	}
	for i, op := range ops {
		if op != i {
			t.Errorf("kind %d has the number %d", i, op)
		}
	}
	if api.Ops != 8 || api.Alus != 11 || api.Conds != 5 || api.Always != 0 || api.Regs != 8 || api.MaxOff != 65535 {
		t.Errorf("the limits are %d, %d, %d, %d, %d, %d", api.Ops, api.Alus, api.Conds, api.Always, api.Regs, api.MaxOff)
	}
}

// P2.1: valid instructions are valid, and are encoded byte by byte as the chapter says.
func TestValidInstructions(t *testing.T) {
	for _, s := range samples() {
		if !inst.May(s.i) {
			t.Errorf("%s: %+v is not valid", s.name, s.i)
		}
		if b, e := inst.Put(s.i); e != api.OK || !bytes.Equal(b, s.b) {
			t.Errorf("%s: Put(%+v) is %v, %d; want %v, 0", s.name, s.i, b, e, s.b)
		}
	}
}

// P2.2: an encoding yields its instruction.
func TestGetEncodings(t *testing.T) {
	for _, s := range samples() {
		if i, e := inst.Get(s.b); e != api.OK || i != s.i {
			t.Errorf("%s: Get(%v) is %+v, %d; want %+v, 0", s.name, s.b, i, e, s.i)
		}
	}
}

func checkRefused(t *testing.T, name string, i api.Inst) {
	t.Helper()
	if inst.May(i) {
		t.Errorf("%s: %+v is valid", name, i)
	}
	if b, e := inst.Put(i); e != api.ErrArg || len(b) != 0 {
		t.Errorf("%s: Put(%+v) is %v, %d; want none, %d", name, i, b, e, api.ErrArg)
	}
}

// P2.1, P1: instructions that break one rule of the definition each.
func TestInvalidInstructions(t *testing.T) {
	cases := []struct {
		name string
		i    api.Inst
	}{
		{"Op below", api.Inst{Op: -1}},
		{"Op above", api.Inst{Op: api.Ops}},
		{"alu, Fn below", api.Inst{Op: api.OpAlu, Fn: -1}},
		{"alu, Fn above", api.Inst{Op: api.OpAlu, Fn: api.Alus}},
		{"jump, Fn below", api.Inst{Op: api.OpJump, Fn: -1}},
		{"jump, Fn above", api.Inst{Op: api.OpJump, Fn: api.Conds}},
		{"Dst below", api.Inst{Dst: -1}},
		{"Dst above", api.Inst{Dst: api.Regs}},
		{"Src below, Reg", api.Inst{Src: -1, Reg: true}},
		{"Src above, Reg", api.Inst{Src: api.Regs, Reg: true}},
		{"Src below, no Reg", api.Inst{Src: -1}},
		{"Src in the range, no Reg", api.Inst{Src: 1}},
		{"last Src, no Reg", api.Inst{Src: 7}},
		{"Reg and Imm", api.Inst{Reg: true, Imm: 1}},
		{"Reg and greatest Imm", api.Inst{Src: 1, Reg: true, Imm: top}},
		{"jump, Reg and Imm", api.Inst{Op: api.OpJump, Fn: api.Ne, Reg: true, Imm: 1}},
		{"jump, Src, no Reg", api.Inst{Op: api.OpJump, Fn: api.Ne, Src: 1}},
		{"jump, Off below", api.Inst{Op: api.OpJump, Fn: api.Eq, Off: -1}},
		{"jump, Off above", api.Inst{Op: api.OpJump, Fn: api.Eq, Off: api.MaxOff + 1}},
		{"always, Off below", api.Inst{Op: api.OpJump, Off: -1}},
		{"always, Off above", api.Inst{Op: api.OpJump, Off: api.MaxOff + 1}},
		{"always, Dst", api.Inst{Op: api.OpJump, Dst: 1}},
		{"always, Dst below", api.Inst{Op: api.OpJump, Dst: -1}},
		{"always, Src", api.Inst{Op: api.OpJump, Src: 1}},
		{"always, Reg", api.Inst{Op: api.OpJump, Reg: true}},
		{"always, Src and Reg", api.Inst{Op: api.OpJump, Src: 1, Reg: true}},
		{"always, Imm", api.Inst{Op: api.OpJump, Imm: 1}},
		{"always, greatest Imm", api.Inst{Op: api.OpJump, Imm: top}},
		{"exit, Imm", api.Inst{Op: api.OpExit, Imm: 1}},
		{"exit, greatest Imm", api.Inst{Op: api.OpExit, Imm: top}},
	}
	for _, c := range cases {
		checkRefused(t, c.name, c.i)
	}
}

// P2.1: the rules that the definition gives for several kinds at once.
func TestInvalidForSeveralKinds(t *testing.T) {
	for op := range api.Ops {
		if op != api.OpAlu && op != api.OpJump {
			checkRefused(t, "Fn", api.Inst{Op: op, Fn: 1})
			checkRefused(t, "Fn below", api.Inst{Op: op, Fn: -1})
		}
		if op != api.OpJump {
			checkRefused(t, "Off", api.Inst{Op: op, Off: 1})
			checkRefused(t, "Off below", api.Inst{Op: op, Off: -1})
			checkRefused(t, "greatest Off", api.Inst{Op: op, Off: api.MaxOff})
		}
		if op == api.OpHelp || op == api.OpCall || op == api.OpExit {
			checkRefused(t, "Dst", api.Inst{Op: op, Dst: 1})
			checkRefused(t, "Dst below", api.Inst{Op: op, Dst: -1})
			checkRefused(t, "Src", api.Inst{Op: op, Src: 1})
			checkRefused(t, "Reg", api.Inst{Op: op, Reg: true})
			checkRefused(t, "Src and Reg", api.Inst{Op: op, Src: 1, Reg: true})
		}
	}
}

// far are numbers that no part may be, also those that are small in fewer bits.
func far() []int {
	return []int{
		math.MinInt, math.MinInt + 1, math.MinInt32, -65536, -256, -16,
		1 << 16, 1 << 17, math.MaxInt32, 1 << 32, 1<<32 + 1, 1 << 40, math.MaxInt,
	}
}

// P2.1, P1: numbers far outside their ranges are not cut down to the range.
func TestPartsFarOutside(t *testing.T) {
	for _, s := range samples() {
		for _, n := range far() {
			op, fn, dst, src, off := s.i, s.i, s.i, s.i, s.i
			op.Op, fn.Fn, dst.Dst, src.Src, off.Off = n, n, n, n, n
			for _, i := range []api.Inst{op, fn, dst, src, off} {
				checkRefused(t, s.name, i)
			}
		}
	}
}

func from(n, low, high int) bool { return n >= low && n <= high }

// valid is the chapter's definition, sentence by sentence.
func valid(i api.Inst) bool {
	if !from(i.Op, 0, 7) || !from(i.Dst, 0, 7) || !from(i.Src, 0, 7) {
		return false
	}
	maxFn := map[int]int{api.OpAlu: 10, api.OpJump: 4}[i.Op]
	maxOff := map[int]int{api.OpJump: 65535}[i.Op]
	if !from(i.Fn, 0, maxFn) || !from(i.Off, 0, maxOff) {
		return false
	}
	if i.Reg && i.Imm != 0 || !i.Reg && i.Src != 0 {
		return false
	}
	bare := i.Dst == 0 && i.Src == 0 && !i.Reg
	switch i.Op {
	case api.OpJump:
		return i.Fn != api.Always || bare && i.Imm == 0
	case api.OpHelp, api.OpCall:
		return bare
	case api.OpExit:
		return bare && i.Imm == 0
	}
	return true
}

// encoding is the chapter's, as one number of 64 bits.
func encoding(i api.Inst) [8]byte {
	second := 8*i.Dst + i.Src
	if i.Reg {
		second += 128
	}
	all := uint64(16*i.Op+i.Fn)<<56 + uint64(second)<<48 + uint64(i.Off)<<32 + uint64(i.Imm)
	var b [8]byte
	for k := range b {
		b[k] = byte(all >> (8 * (7 - k)))
	}
	return b
}

// eachInst calls f with every combination of Op, Fn, Dst, Src and Reg in and
// next to their ranges, with some Off and Imm.
func eachInst(f func(api.Inst)) {
	for op := -1; op <= api.Ops; op++ {
		for fn := -1; fn <= 16; fn++ {
			for dst := -1; dst <= api.Regs; dst++ {
				for src := -1; src <= api.Regs; src++ {
					for _, reg := range []bool{false, true} {
						for _, off := range []int{-1, 0, 1, 258, 65535, 65536} {
							for _, imm := range []uint32{0, 1, 0x80fe0102, top} {
								f(api.Inst{Op: op, Fn: fn, Dst: dst, Src: src, Reg: reg, Off: off, Imm: imm})
							}
						}
					}
				}
			}
		}
	}
}

// P2.1, P2.3: May, Put and Get agree with the definition on all of these.
func TestAgainstTheDefinition(t *testing.T) {
	found := 0
	eachInst(func(i api.Inst) {
		if !valid(i) {
			checkRefused(t, "not valid", i)
			return
		}
		found++
		b, e := inst.Put(i)
		if want := encoding(i); !inst.May(i) || e != api.OK || !bytes.Equal(b, want[:]) {
			t.Errorf("%+v: May is %v, Put is %v, %d; want true, %v, 0", i, inst.May(i), b, e, want)
		}
		if back, e := inst.Get(b); e != api.OK || back != i {
			t.Errorf("Get(Put(%+v)) is %+v, %d", i, back, e)
		}
	})
	// A Dst and an operand (one of 4 words or of 8 registers) are 8 * 12. An
	// OpAlu has 11 Fn, a comparing jump 4 Fn and 4 Off, three kinds have one
	// Fn; then Always with 4 Off, OpHelp and OpCall with 4 words, and OpExit.
	if want := 96*(11+4*4+3) + 4 + 4 + 4 + 1; found != want {
		t.Errorf("%d valid instructions; want %d", found, want)
	}
}

// P2.2, P2.3: of bytes with every first and second byte, just the encodings of
// valid instructions are accepted, and they are encoded as they were.
func TestGetOfAllBytes(t *testing.T) {
	want := map[[8]byte]api.Inst{}
	eachInst(func(i api.Inst) {
		if valid(i) {
			want[encoding(i)] = i
		}
	})
	tails := [][6]byte{}
	for _, off := range [][2]byte{{0, 0}, {0, 1}, {1, 2}, {255, 255}} {
		for _, imm := range [][4]byte{{0, 0, 0, 0}, {0, 0, 0, 1}, {0x80, 0xfe, 1, 2}, {255, 255, 255, 255}} {
			tails = append(tails, [6]byte{off[0], off[1], imm[0], imm[1], imm[2], imm[3]})
		}
	}
	accepted := 0
	for head := range 1 << 16 {
		for _, tail := range tails {
			b := [8]byte{byte(head >> 8), byte(head)}
			copy(b[2:], tail[:])
			i, e := inst.Get(b[:])
			known, is := want[b]
			if !is {
				if e != api.ErrForm || i != (api.Inst{}) {
					t.Errorf("Get(%v) is %+v, %d; want zeros, %d", b, i, e, api.ErrForm)
				}
				continue
			}
			accepted++
			if e != api.OK || i != known {
				t.Errorf("Get(%v) is %+v, %d; want %+v, 0", b, i, e, known)
			}
			if again, e := inst.Put(i); e != api.OK || !bytes.Equal(again, b[:]) {
				t.Errorf("Put(Get(%v)) is %v, %d", b, again, e)
			}
		}
	}
	if accepted != len(want) {
		t.Errorf("%d bytes were accepted; want %d", accepted, len(want))
	}
}

func checkNoForm(t *testing.T, name string, b []byte) {
	t.Helper()
	if i, e := inst.Get(b); e != api.ErrForm || i != (api.Inst{}) {
		t.Errorf("%s: Get(%v) is %+v, %d; want zeros, %d", name, b, i, e, api.ErrForm)
	}
}

// P2.2, P1: bytes that are too few or too many, though they begin as an encoding.
func TestGetOfOtherLengths(t *testing.T) {
	checkNoForm(t, "nil", nil)
	checkNoForm(t, "empty", []byte{})
	for _, s := range samples() {
		for size := range len(s.b) {
			checkNoForm(t, s.name, s.b[:size])
		}
		long := append([]byte{}, s.b...)
		for range 2 * len(s.b) {
			long = append(long, 0)
			checkNoForm(t, s.name, long)
		}
		checkNoForm(t, s.name, append(append([]byte{}, s.b...), s.b...))
		checkNoForm(t, s.name, append([]byte{0}, s.b...))
	}
	checkNoForm(t, "many", make([]byte, 1<<16))
}

// P2.2: eight bytes that are the encoding of no valid instruction.
func TestGetOfNoEncoding(t *testing.T) {
	cases := []struct {
		name string
		b    []byte
	}{
		{"Op 8", []byte{128, 0, 0, 0, 0, 0, 0, 0}},
		{"Op 15", []byte{240, 0, 0, 0, 0, 0, 0, 0}},
		{"alu, Fn 11", []byte{11, 0, 0, 0, 0, 0, 0, 0}},
		{"alu, Fn 15", []byte{15, 0, 0, 0, 0, 0, 0, 0}},
		{"jump, Fn 5", []byte{21, 0, 0, 0, 0, 0, 0, 0}},
		{"ctx, Fn 1", []byte{33, 0, 0, 0, 0, 0, 0, 0}},
		{"exit, Fn 1", []byte{113, 0, 0, 0, 0, 0, 0, 0}},
		{"the bit between Reg and Dst", []byte{0, 64, 0, 0, 0, 0, 0, 0}},
		{"that bit with Reg", []byte{0, 192, 0, 0, 0, 0, 0, 0}},
		{"Src without Reg", []byte{0, 1, 0, 0, 0, 0, 0, 0}},
		{"Reg and the first byte of Imm", []byte{0, 128, 0, 0, 1, 0, 0, 0}},
		{"Reg and the last byte of Imm", []byte{0, 128, 0, 0, 0, 0, 0, 1}},
		{"alu, first byte of Off", []byte{0, 0, 1, 0, 0, 0, 0, 0}},
		{"alu, last byte of Off", []byte{0, 0, 0, 1, 0, 0, 0, 0}},
		{"always, Dst", []byte{16, 8, 0, 0, 0, 0, 0, 0}},
		{"always, Reg", []byte{16, 128, 0, 0, 0, 0, 0, 0}},
		{"always, Imm", []byte{16, 0, 0, 0, 0, 0, 0, 1}},
		{"help, Dst", []byte{80, 8, 0, 0, 0, 0, 0, 0}},
		{"call, Reg", []byte{96, 128, 0, 0, 0, 0, 0, 0}},
		{"exit, Imm", []byte{112, 0, 0, 0, 0, 0, 0, 1}},
		{"all ones", []byte{255, 255, 255, 255, 255, 255, 255, 255}},
	}
	for _, c := range cases {
		checkNoForm(t, c.name, c.b)
	}
}

// P2.2, P2.3: an encoding with one bit turned yields another instruction or
// none.
func TestGetTellsEveryBitApart(t *testing.T) {
	for _, s := range samples() {
		for k := range len(s.b) {
			for bit := range 8 {
				b := append([]byte{}, s.b...)
				b[k] ^= 1 << bit
				i, e := inst.Get(b)
				if e == api.OK && i == s.i {
					t.Errorf("%s: %v and %v are both encodings of %+v", s.name, s.b, b, i)
				}
				if again, f := inst.Put(i); e == api.OK && (f != api.OK || !bytes.Equal(again, b)) {
					t.Errorf("%s: Put(Get(%v)) is %v, %d", s.name, b, again, f)
				}
			}
		}
	}
}

// R3: bytes are not changed, and later changes of bytes change no answer.
func TestBytesAreNotShared(t *testing.T) {
	for _, s := range samples() {
		given := append([]byte{}, s.b...)
		i, _ := inst.Get(given)
		if !bytes.Equal(given, s.b) {
			t.Errorf("%s: Get changed its bytes to %v", s.name, given)
		}
		clear(given)
		if i != s.i {
			t.Errorf("%s: the instruction became %+v", s.name, i)
		}
		first, _ := inst.Put(s.i)
		second, _ := inst.Put(s.i)
		for k := range first {
			first[k] = 99
		}
		if third, _ := inst.Put(s.i); !bytes.Equal(second, s.b) || !bytes.Equal(third, s.b) {
			t.Errorf("%s: Put is %v and %v after its result was changed", s.name, second, third)
		}
	}
}
