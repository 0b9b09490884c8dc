package prog_test

import (
	"bytes"
	"math"
	"testing"

	"drydock/api"
	"drydock/inst"
	"drydock/prog"
)

const top = math.MaxUint32

func exit() api.Inst { return api.Inst{Op: api.OpExit} }

// kinds are valid instructions of every kind, with parts at the ends of their
// ranges.
func kinds() []api.Inst {
	return []api.Inst{
		{},
		{Op: api.OpAlu, Fn: api.Shr, Dst: 7, Imm: top},
		{Op: api.OpAlu, Fn: api.Add, Dst: 2, Src: 7, Reg: true},
		{Op: api.OpJump, Fn: api.Always, Off: 65535},
		{Op: api.OpJump, Fn: api.Ge, Dst: 7, Off: 258, Imm: 0x01020304},
		{Op: api.OpCtx, Dst: 1, Imm: 3},
		{Op: api.OpLoad, Dst: 5, Src: 6, Reg: true},
		{Op: api.OpStore, Dst: 6, Imm: 256},
		{Op: api.OpHelp, Imm: api.HelpPush},
		{Op: api.OpCall, Imm: top},
		exit(),
	}
}

// code returns size valid instructions, in which neighbours differ.
func code(size int) []api.Inst {
	list := []api.Inst{}
	for k := range size {
		list = append(list, kinds()[k%len(kinds())])
	}
	return list
}

func fn(args, size int) api.Fn { return api.Fn{Args: args, Code: code(size)} }

func program(fns ...api.Fn) api.Prog { return api.Prog{Fns: fns} }

// program8 has all Args and the shortest and longest code.
func program8() api.Prog {
	return program(fn(0, 64), fn(4, 1), fn(1, 2), fn(2, 63), fn(3, 64), fn(0, 1), fn(4, 11), fn(1, 64))
}

type sample struct {
	name string
	p    api.Prog
}

// samples are valid programs.
func samples() []sample {
	list := []sample{
		{"the document's example", program(api.Fn{Code: []api.Inst{exit()}})},
		{"the zero instruction", program(api.Fn{Code: []api.Inst{{}}})},
		{"every kind of instruction", program(api.Fn{Code: kinds()})},
		{"64 instructions", program(fn(0, 64))},
		{"two functions alike", program(fn(0, 3), fn(0, 3))},
		{"the order of functions", program(fn(0, 2), fn(3, 5), fn(1, 4))},
		{"8 functions", program8()},
		{"8 least functions", program(fn(0, 1), fn(0, 1), fn(0, 1), fn(0, 1), fn(0, 1), fn(0, 1), fn(0, 1), fn(0, 1))},
		{"8 greatest functions", program(fn(0, 64), fn(4, 64), fn(4, 64), fn(4, 64), fn(4, 64), fn(4, 64), fn(4, 64), fn(4, 64))},
	}
	for args := range api.MaxArgs + 1 {
		list = append(list, sample{"Args", program(fn(0, 1), fn(args, 1))})
		list = append(list, sample{"Args of the last of 3", program(fn(0, 1), fn(2, 3), fn(args, 64))})
	}
	return list
}

// instEncoding is the encoding of an instruction, as chapter 2 says it.
func instEncoding(i api.Inst) []byte {
	second := 8*i.Dst + i.Src
	if i.Reg {
		second += 128
	}
	return []byte{
		byte(16*i.Op + i.Fn), byte(second), byte(i.Off / 256), byte(i.Off % 256),
		byte(i.Imm >> 24), byte(i.Imm >> 16), byte(i.Imm >> 8), byte(i.Imm),
	}
}

// encoding is the chapter's encoding of any program, valid or not.
func encoding(p api.Prog) []byte {
	b := []byte{88, 86, byte(len(p.Fns))}
	for _, f := range p.Fns {
		b = append(b, byte(f.Args), byte(len(f.Code)))
		for _, i := range f.Code {
			b = append(b, instEncoding(i)...)
		}
	}
	return b
}

// clone copies p into memory of its own.
func clone(p api.Prog) api.Prog {
	var q api.Prog
	for _, f := range p.Fns {
		q.Fns = append(q.Fns, api.Fn{Args: f.Args, Code: append([]api.Inst{}, f.Code...)})
	}
	return q
}

// equal is the chapter's definition of Same, on its own.
func equal(p, q api.Prog) bool {
	if len(p.Fns) != len(q.Fns) {
		return false
	}
	for k, f := range p.Fns {
		g := q.Fns[k]
		if f.Args != g.Args || len(f.Code) != len(g.Code) {
			return false
		}
		for j := range f.Code {
			if f.Code[j] != g.Code[j] {
				return false
			}
		}
	}
	return true
}

// spoil overwrites everything that p reaches.
func spoil(p api.Prog) {
	for k := range p.Fns {
		for j := range p.Fns[k].Code {
			p.Fns[k].Code[j] = api.Inst{Op: -1, Imm: 99}
		}
		p.Fns[k] = api.Fn{Args: -1}
	}
}

func mustPut(t *testing.T, p api.Prog) []byte {
	t.Helper()
	b, e := prog.Put(p)
	if e != api.OK {
		t.Fatalf("Put(%+v) is %d", p, e)
	}
	return b
}

// P3.1: the constants are the numbers that the chapter speaks of.
func TestNumbers(t *testing.T) {
	if api.MaxFns != 8 || api.MaxArgs != 4 || api.MaxCode != 64 {
		t.Errorf("the limits are %d, %d, %d", api.MaxFns, api.MaxArgs, api.MaxCode)
	}
	if api.OK != 0 || api.ErrArg != 1 || api.ErrNone != 3 || api.ErrForm != 7 || api.ErrType != 9 {
		t.Errorf("the errors are %d, %d, %d, %d, %d", api.OK, api.ErrArg, api.ErrNone, api.ErrForm, api.ErrType)
	}
}

// P3.1: encodings that are written out by hand.
func TestPutExamples(t *testing.T) {
	cases := []struct {
		name string
		p    api.Prog
		b    []byte
	}{
		{
			"the document's example",
			program(api.Fn{Code: []api.Inst{exit()}}),
			[]byte{88, 86, 1, 0, 1, 112, 0, 0, 0, 0, 0, 0, 0},
		},
		{
			"add and exit",
			program(api.Fn{Code: []api.Inst{{Op: api.OpAlu, Fn: api.Add, Dst: 2, Imm: 5}, exit()}}),
			[]byte{88, 86, 1, 0, 2, 1, 16, 0, 0, 0, 0, 0, 5, 112, 0, 0, 0, 0, 0, 0, 0},
		},
		{
			"three functions",
			program(
				api.Fn{Code: []api.Inst{{Op: api.OpCall, Imm: 258}, exit()}},
				api.Fn{Args: 4, Code: []api.Inst{exit()}},
				api.Fn{Args: 1, Code: []api.Inst{{Op: api.OpJump, Fn: api.Lt, Dst: 1, Src: 6, Reg: true, Off: 256}}},
			),
			[]byte{
				88, 86, 3,
				0, 2, 96, 0, 0, 0, 0, 0, 1, 2, 112, 0, 0, 0, 0, 0, 0, 0,
				4, 1, 112, 0, 0, 0, 0, 0, 0, 0,
				1, 1, 19, 142, 1, 0, 0, 0, 0, 0,
			},
		},
	}
	for _, c := range cases {
		if b, e := prog.Put(c.p); e != api.OK || !bytes.Equal(b, c.b) {
			t.Errorf("%s: Put is %v, %d; want %v, 0", c.name, b, e, c.b)
		}
		if p, e := prog.Get(c.b); e != api.OK || !equal(p, c.p) {
			t.Errorf("%s: Get is %+v, %d; want %+v, 0", c.name, p, e, c.p)
		}
	}
}

// P3.1, P3.3: valid programs are valid, are encoded as the chapter says, and
// come back from their encodings.
func TestValidPrograms(t *testing.T) {
	for _, s := range samples() {
		if !prog.May(s.p) {
			t.Errorf("%s: %+v is not valid", s.name, s.p)
		}
		b, e := prog.Put(s.p)
		if want := encoding(s.p); e != api.OK || !bytes.Equal(b, want) {
			t.Errorf("%s: Put is %v, %d; want %v, 0", s.name, b, e, want)
		}
		p, e := prog.Get(b)
		if e != api.OK || !equal(p, s.p) || !prog.Same(p, s.p) {
			t.Errorf("%s: Get(Put(p)) is %+v, %d; want %+v, 0", s.name, p, e, s.p)
		}
		if again, e := prog.Put(p); e != api.OK || !bytes.Equal(again, b) {
			t.Errorf("%s: Put(Get(b)) is %v, %d; want %v, 0", s.name, again, e, b)
		}
	}
}

// P3.1: every valid instruction may stand at every place of a function.
func TestEveryInstructionAtEveryPlace(t *testing.T) {
	for _, i := range kinds() {
		for place := range api.MaxCode {
			p := program(fn(0, 1), fn(2, api.MaxCode))
			p.Fns[1].Code[place] = i
			if b, e := prog.Put(p); !prog.May(p) || e != api.OK || !bytes.Equal(b, encoding(p)) {
				t.Errorf("%+v at %d: May is %v, Put is %v, %d", i, place, prog.May(p), b, e)
			}
		}
	}
}

func checkRefused(t *testing.T, name string, p api.Prog) {
	t.Helper()
	if prog.May(p) {
		t.Errorf("%s: %+v is valid", name, p)
	}
	if b, e := prog.Put(p); e != api.ErrArg || len(b) != 0 {
		t.Errorf("%s: Put(%+v) is %v, %d; want none, %d", name, p, b, e, api.ErrArg)
	}
	if q, e := prog.Swap(p, 0, fn(0, 1)); e != api.ErrArg || len(q.Fns) != 0 {
		t.Errorf("%s: Swap(%+v) is %+v, %d; want none, %d", name, p, q, e, api.ErrArg)
	}
}

// badInsts are instructions that are not valid.
func badInsts() []api.Inst {
	return []api.Inst{
		{Op: -1}, {Op: api.Ops}, {Fn: api.Alus}, {Dst: api.Regs}, {Src: 1}, {Reg: true, Imm: 1},
		{Op: api.OpJump, Off: api.MaxOff + 1}, {Op: api.OpCtx, Off: 1}, {Op: api.OpCall, Dst: 1},
		{Op: api.OpExit, Imm: 1}, {Op: math.MinInt}, {Op: 1 << 32},
	}
}

// badArgs are Args that no function may have, also those that are small in
// fewer bits.
func badArgs() []int {
	return []int{-1, -4, -256, math.MinInt32, math.MinInt, 5, 6, 64, 255, 256, 257, 1 << 16, 1 << 32, 1<<32 + 1, math.MaxInt}
}

// badPrograms break one rule of the definition each.
func badPrograms() []sample {
	nine := program8()
	nine.Fns = append(nine.Fns, fn(0, 1))
	bad := []sample{
		{"the zero value", api.Prog{}},
		{"no function", program()},
		{"9 functions", nine},
		{"9 functions without code", api.Prog{Fns: make([]api.Fn, 9)}},
		{"a function without code", program(api.Fn{})},
		{"a function with empty code", program(fn(0, 0))},
		{"65 instructions", program(fn(0, 65))},
		{"256 instructions", program(fn(0, 256))},
		{"257 instructions", program(fn(0, 257))},
		{"a later function without code", program(fn(0, 1), api.Fn{Args: 1}, fn(0, 1))},
		{"the last function without code", program(fn(0, 1), fn(1, 1), fn(1, 0))},
		{"65 instructions in a later function", program(fn(0, 1), fn(1, 65), fn(0, 1))},
		{"65 instructions in the last function", program(fn(0, 1), fn(1, 1), fn(0, 65))},
	}
	for args := 1; args <= api.MaxArgs; args++ {
		bad = append(bad, sample{"a first function with arguments", program(fn(args, 1))})
		bad = append(bad, sample{"a first of two functions with arguments", program(fn(args, 1), fn(0, 1))})
	}
	for _, args := range badArgs() {
		bad = append(bad, sample{"Args of the first function", program(fn(args, 1))})
		bad = append(bad, sample{"Args of a later function", program(fn(0, 1), fn(args, 1), fn(0, 1))})
		bad = append(bad, sample{"Args of the last function", program(fn(0, 1), fn(1, 1), fn(args, 1))})
	}
	for _, i := range badInsts() {
		bad = append(bad, sample{"the only instruction", program(api.Fn{Code: []api.Inst{i}})})
		for _, place := range []int{0, 1, 63} {
			for k := range 3 {
				p := program(fn(0, 64), fn(2, 64), fn(4, 64))
				p.Fns[k].Code[place] = i
				bad = append(bad, sample{"an instruction", p})
			}
		}
	}
	return bad
}

// P3.1, P3.2, P1: programs that are not valid.
func TestInvalidPrograms(t *testing.T) {
	for _, c := range badPrograms() {
		checkRefused(t, c.name, c.p)
	}
}

// P3.1: just the numbers 1 to 8 of functions are accepted.
func TestNumberOfFunctions(t *testing.T) {
	for count := range 300 {
		var p api.Prog
		for range count {
			p.Fns = append(p.Fns, fn(0, 1))
		}
		if count < 1 || count > 8 {
			checkRefused(t, "functions", p)
			checkNoForm(t, "functions", encoding(p))
			continue
		}
		if b, e := prog.Put(p); !prog.May(p) || e != api.OK || !bytes.Equal(b, encoding(p)) {
			t.Errorf("%d functions: May is %v, Put is %v, %d", count, prog.May(p), b, e)
		}
	}
}

// P3.1: just the numbers 1 to 64 of instructions are accepted, in every function.
func TestNumberOfInstructions(t *testing.T) {
	for count := range 300 {
		for k := range 3 {
			p := program(fn(0, 1), fn(1, 1), fn(4, 1))
			p.Fns[k].Code = code(count)
			if count < 1 || count > 64 {
				checkRefused(t, "instructions", p)
				checkNoForm(t, "instructions", encoding(p))
				continue
			}
			if b, e := prog.Put(p); !prog.May(p) || e != api.OK || !bytes.Equal(b, encoding(p)) {
				t.Errorf("%d instructions in %d: May is %v, Put is %v, %d", count, k, prog.May(p), b, e)
			}
		}
	}
}

// P3.1: just the Args 0 to 4 are accepted, in the first function just 0.
func TestArgs(t *testing.T) {
	for args := -2; args <= 300; args++ {
		for k := range 3 {
			p := program(fn(0, 1), fn(1, 2), fn(4, 1))
			p.Fns[k].Args = args
			if args < 0 || args > 4 || k == 0 && args > 0 {
				checkRefused(t, "Args", p)
				continue
			}
			if b, e := prog.Put(p); !prog.May(p) || e != api.OK || !bytes.Equal(b, encoding(p)) {
				t.Errorf("Args %d in %d: May is %v, Put is %v, %d", args, k, prog.May(p), b, e)
			}
		}
	}
}

func checkNoForm(t *testing.T, name string, b []byte) {
	t.Helper()
	if p, e := prog.Get(b); e != api.ErrForm || len(p.Fns) != 0 {
		t.Errorf("%s: Get(%v) is %+v, %d; want none, %d", name, b, p, e, api.ErrForm)
	}
}

// P3.1, P1: bytes that are too few, though they begin as an encoding.
func TestGetOfTooFewBytes(t *testing.T) {
	checkNoForm(t, "nil", nil)
	checkNoForm(t, "empty", []byte{})
	for _, s := range samples() {
		b := encoding(s.p)
		for size := range b {
			checkNoForm(t, s.name, b[:size]) // the rest stands behind, within the capacity
			checkNoForm(t, s.name, append([]byte{}, b[:size]...))
		}
		for size := 1; size < len(b); size++ {
			checkNoForm(t, s.name, b[size:])
		}
	}
}

// P3.1, P1: bytes that are too many: an encoding with something around it.
func TestGetOfTooManyBytes(t *testing.T) {
	for _, s := range samples() {
		b := encoding(s.p)
		long := append([]byte{}, b...)
		for range 20 {
			long = append(long, 0)
			checkNoForm(t, s.name, long)
		}
		checkNoForm(t, s.name, append(append([]byte{}, b...), b...))
		checkNoForm(t, s.name, append(append([]byte{}, b...), 0, 1, 112, 0, 0, 0, 0, 0, 0, 0))
		checkNoForm(t, s.name, append(append([]byte{}, b...), instEncoding(exit())...))
		checkNoForm(t, s.name, append([]byte{88}, b...))
		checkNoForm(t, s.name, append([]byte{0}, b...))
	}
	checkNoForm(t, "many zeros", make([]byte, 1<<20))
	checkNoForm(t, "a mark and many zeros", append([]byte{88, 86, 255}, make([]byte, 1<<20)...))
}

// P3.1: bytes that do not begin with 88, 86, with every other pair of bytes.
func TestGetOfAnotherBeginning(t *testing.T) {
	b := encoding(program(fn(0, 2), fn(3, 1)))
	for head := range 1 << 16 {
		if head == 88*256+86 {
			continue
		}
		b[0], b[1] = byte(head>>8), byte(head)
		checkNoForm(t, "beginning", b)
	}
}

// P3.1: bytes whose number of functions does not fit what follows.
func TestGetOfEveryNumberOfFunctions(t *testing.T) {
	for count := 1; count <= api.MaxFns; count++ {
		var p api.Prog
		for range count {
			p.Fns = append(p.Fns, fn(0, 1))
		}
		for n := range 256 {
			b := encoding(p)
			b[2] = byte(n)
			if n == count {
				if q, e := prog.Get(b); e != api.OK || !equal(p, q) {
					t.Errorf("Get(%v) is %+v, %d", b, q, e)
				}
				continue
			}
			checkNoForm(t, "functions", b)
		}
	}
}

// P3.1: every byte for Args, in the first function and in a later one.
func TestGetOfEveryArgs(t *testing.T) {
	p := program(fn(0, 2), fn(1, 1))
	for k, at := range []int{3, 3 + 2 + 16} {
		for n := range 256 {
			b := encoding(p)
			b[at] = byte(n)
			if k == 0 && n > 0 || n > 4 {
				checkNoForm(t, "Args", b)
				continue
			}
			q, e := prog.Get(b)
			if e != api.OK || len(q.Fns) != 2 || q.Fns[k].Args != n {
				t.Errorf("Get(%v) is %+v, %d", b, q, e)
			}
		}
	}
}

// P3.1: every byte for the number of instructions, with as many bytes behind it
// as it says, with one less and with one more.
func TestGetOfEveryNumberOfInstructions(t *testing.T) {
	for n := range 256 {
		code := bytes.Repeat(instEncoding(exit()), n)
		alone := append([]byte{88, 86, 1, 0, byte(n)}, code...)
		second := append([]byte{88, 86, 2, 0, 1, 112, 0, 0, 0, 0, 0, 0, 0, 3, byte(n)}, code...)
		for k, b := range [][]byte{alone, second} {
			p, e := prog.Get(b)
			if n < 1 || n > 64 {
				checkNoForm(t, "instructions", b)
			} else if e != api.OK || len(p.Fns) != k+1 || len(p.Fns[k].Code) != n || p.Fns[k].Args != 3*k {
				t.Errorf("Get(%v) is %+v, %d", b, p, e)
			}
			checkNoForm(t, "one byte less", b[:len(b)-1])
			checkNoForm(t, "one byte more", append(append([]byte{}, b...), 0))
			checkNoForm(t, "one instruction more", append(append([]byte{}, b...), instEncoding(exit())...))
		}
	}
}

// P3.1: bytes that are the encoding of a program, but of no valid one.
func TestGetOfInvalidPrograms(t *testing.T) {
	exits := bytes.Repeat([]byte{112, 0, 0, 0, 0, 0, 0, 0}, 65)
	cases := []struct {
		name string
		b    []byte
	}{
		{"the mark", []byte{88, 86}},
		{"no function", []byte{88, 86, 0}},
		{"no function, and bytes behind", []byte{88, 86, 0, 0, 1, 112, 0, 0, 0, 0, 0, 0, 0}},
		{"no instruction", []byte{88, 86, 1, 0, 0}},
		{"no instruction, and one behind", []byte{88, 86, 1, 0, 0, 112, 0, 0, 0, 0, 0, 0, 0}},
		{"a later function without instructions", []byte{88, 86, 2, 0, 1, 112, 0, 0, 0, 0, 0, 0, 0, 0, 0}},
		{"65 instructions", append([]byte{88, 86, 1, 0, 65}, exits...)},
		{"an argument of the first function", []byte{88, 86, 1, 1, 1, 112, 0, 0, 0, 0, 0, 0, 0}},
		{"a function with 5 arguments", []byte{88, 86, 2, 0, 1, 112, 0, 0, 0, 0, 0, 0, 0, 5, 1, 112, 0, 0, 0, 0, 0, 0, 0}},
		{"an instruction of no kind", []byte{88, 86, 1, 0, 1, 128, 0, 0, 0, 0, 0, 0, 0}},
		{"an exit with Imm", []byte{88, 86, 1, 0, 1, 112, 0, 0, 0, 0, 0, 0, 1}},
		{"the last instruction is not valid", []byte{88, 86, 1, 0, 2, 112, 0, 0, 0, 0, 0, 0, 0, 0, 64, 0, 0, 0, 0, 0, 0}},
		{"all ones", bytes.Repeat([]byte{255}, 100)},
	}
	for _, c := range cases {
		checkNoForm(t, c.name, c.b)
	}
}

// instPlaces tells for each byte of the encoding of p where its instruction
// begins, or -1.
func instPlaces(p api.Prog) []int {
	places := []int{-1, -1, -1}
	for _, f := range p.Fns {
		places = append(places, -1, -1)
		for range f.Code {
			at := len(places)
			for range 8 {
				places = append(places, at)
			}
		}
	}
	return places
}

// P3.1, P3.3: an encoding with any one byte changed yields another program or
// none, and what it yields is encoded as it was.
func TestGetTellsEveryByteApart(t *testing.T) {
	p := program(api.Fn{Code: kinds()}, fn(4, 2), fn(1, 3))
	want := encoding(p)
	for at, place := range instPlaces(p) {
		for x := range 256 {
			b := append([]byte{}, want...)
			b[at] = byte(x)
			q, e := prog.Get(b)
			if place >= 0 {
				if _, f := inst.Get(b[place : place+8]); e != f {
					t.Errorf("byte %d as %d: Get is %d, inst.Get is %d", at, x, e, f)
				}
			}
			if e != api.OK {
				checkNoForm(t, "changed", b)
				continue
			}
			if prog.Same(p, q) != bytes.Equal(b, want) || equal(p, q) != bytes.Equal(b, want) {
				t.Errorf("byte %d as %d: %+v", at, x, q)
			}
			if again := mustPut(t, q); !bytes.Equal(again, b) {
				t.Errorf("Put(Get(%v)) is %v", b, again)
			}
		}
	}
}

func checkSame(t *testing.T, name string, p, q api.Prog, want bool) {
	t.Helper()
	if prog.Same(p, q) != want || prog.Same(q, p) != want {
		t.Errorf("%s: Same(%+v, %+v) is %v, the other way %v; want %v", name, p, q, prog.Same(p, q), prog.Same(q, p), want)
	}
}

// P3.1: a program is the same as its copy, valid or not.
func TestSameAsItsCopy(t *testing.T) {
	for _, s := range append(samples(), badPrograms()...) {
		checkSame(t, s.name, s.p, s.p, true)
		checkSame(t, s.name, s.p, clone(s.p), true)
	}
}

// P3.1, R6: an empty list is the same, nil or not.
func TestSameWithEmptyLists(t *testing.T) {
	checkSame(t, "functions", api.Prog{}, api.Prog{Fns: []api.Fn{}}, true)
	none := program(api.Fn{Args: 2}, api.Fn{Code: []api.Inst{}})
	other := program(api.Fn{Args: 2, Code: []api.Inst{}}, api.Fn{})
	checkSame(t, "instructions", none, other, true)
	checkSame(t, "none and one empty function", api.Prog{}, program(api.Fn{}), false)
}

// P3.1: programs that differ in one thing, at every place.
func TestSameOfDifferentPrograms(t *testing.T) {
	for _, s := range samples() {
		last := len(s.p.Fns) - 1
		checkSame(t, s.name+" and no function", s.p, api.Prog{}, false)
		checkSame(t, s.name+" without its last function", s.p, api.Prog{Fns: s.p.Fns[:last]}, false)
		checkSame(t, s.name+" with its last function twice", s.p, program(append(clone(s.p).Fns, s.p.Fns[last])...), false)
		checkSame(t, s.name+" with a function without code", s.p, program(append(clone(s.p).Fns, api.Fn{})...), false)
		for k, f := range s.p.Fns {
			for _, args := range []int{-1, f.Args + 1, f.Args + 256, f.Args + 1<<32} {
				q := clone(s.p)
				q.Fns[k].Args = args
				checkSame(t, s.name+" with other Args", s.p, q, false)
			}
			size := len(f.Code)
			q := clone(s.p)
			q.Fns[k].Code = q.Fns[k].Code[:size-1]
			checkSame(t, s.name+" without an instruction", s.p, q, false)
			q.Fns[k].Code = append(append([]api.Inst{}, f.Code...), f.Code[size-1])
			checkSame(t, s.name+" with an instruction twice", s.p, q, false)
			q.Fns[k].Code = append(append([]api.Inst{}, f.Code...), api.Inst{})
			checkSame(t, s.name+" with a zero instruction more", s.p, q, false)
		}
	}
}

// P3.1: programs that differ in one part of one instruction.
func TestSameOfDifferentInstructions(t *testing.T) {
	p := program(api.Fn{Code: kinds()}, fn(4, 1), fn(1, 64))
	for k, f := range p.Fns {
		for j, i := range f.Code {
			for _, other := range changedParts(i) {
				q := clone(p)
				q.Fns[k].Code[j] = other
				checkSame(t, "an instruction", p, q, false)
			}
		}
	}
}

// changedParts are instructions that differ from i in one part each.
func changedParts(i api.Inst) []api.Inst {
	op, fn, dst, src, reg, off, imm := i, i, i, i, i, i, i
	op.Op += 1 << 32
	fn.Fn++
	dst.Dst--
	src.Src += 8
	reg.Reg = !reg.Reg
	off.Off += 1 << 16
	imm.Imm ^= 1 << 31
	return []api.Inst{op, fn, dst, src, reg, off, imm}
}

// P3.1: what stands in another order is not the same.
func TestSameMindsTheOrder(t *testing.T) {
	p := program(fn(0, 2), fn(1, 3), fn(2, 3))
	q := clone(p)
	q.Fns[1], q.Fns[2] = q.Fns[2], q.Fns[1]
	checkSame(t, "functions", p, q, false)
	q = clone(p)
	q.Fns[0].Code[0], q.Fns[0].Code[1] = q.Fns[0].Code[1], q.Fns[0].Code[0]
	checkSame(t, "instructions", p, q, false)
	checkSame(t, "the same code in other functions", program(fn(0, 1), fn(0, 2)), program(fn(0, 2), fn(0, 1)), false)
}

// other returns valid code of the given size that begins otherwise than code does.
func other(size int) []api.Inst {
	list := code(size)
	list[0] = api.Inst{Op: api.OpHelp, Imm: 77}
	return list
}

// P3.2, P3.3: a function is put in the place of every function, all others
// stay, and the original function restores the program.
func TestSwap(t *testing.T) {
	for _, s := range samples() {
		for i, old := range s.p.Fns {
			for _, size := range []int{1, 2, 63, 64} {
				f := api.Fn{Args: old.Args, Code: other(size)}
				want := clone(s.p)
				want.Fns[i] = f
				q, e := prog.Swap(s.p, i, f)
				if e != api.OK || !equal(q, want) || !prog.May(q) || prog.Same(q, s.p) {
					t.Errorf("%s: Swap of function %d is %+v, %d; want %+v, 0", s.name, i, q, e, want)
				}
				back, e := prog.Swap(q, i, old)
				if e != api.OK || !equal(back, s.p) || !prog.Same(back, s.p) {
					t.Errorf("%s: swapping function %d back is %+v, %d; want %+v, 0", s.name, i, back, e, s.p)
				}
				if !bytes.Equal(mustPut(t, back), mustPut(t, s.p)) {
					t.Errorf("%s: swapping function %d back changes the encoding", s.name, i)
				}
			}
			if q, e := prog.Swap(s.p, i, old); e != api.OK || !equal(q, s.p) {
				t.Errorf("%s: Swap of function %d by itself is %+v, %d", s.name, i, q, e)
			}
		}
	}
}

func checkSwap(t *testing.T, name string, p api.Prog, i int, f api.Fn, want api.Errno) {
	t.Helper()
	if q, e := prog.Swap(p, i, f); e != want || len(q.Fns) != 0 {
		t.Errorf("%s: Swap(%+v, %d, %+v) is %+v, %d; want none, %d", name, p, i, f, q, e, want)
	}
}

// badCodes are those that no function may have.
func badCodes() [][]api.Inst {
	list := [][]api.Inst{nil, {}, code(65), code(66), code(256), code(257), code(320)}
	for _, i := range badInsts() {
		first, last := code(64), code(64)
		first[0], last[63] = i, i
		list = append(list, []api.Inst{i}, first, last)
	}
	return list
}

// outside are numbers that are no function's of a program with count functions.
func outside(count int) []int {
	return []int{
		-1, -2, -count, -256, math.MinInt32, math.MinInt, math.MinInt + 1,
		count, count + 1, count + 7, 255, 256, math.MaxInt32, 1 << 32, 1<<32 + 1, math.MaxInt,
	}
}

// P3.2: each error of Swap alone.
func TestSwapErrors(t *testing.T) {
	for _, c := range badPrograms() {
		for i, f := range c.p.Fns {
			checkSwap(t, c.name, c.p, i, api.Fn{Args: f.Args, Code: code(1)}, api.ErrArg)
		}
	}
	for _, s := range samples() {
		for _, i := range outside(len(s.p.Fns)) {
			checkSwap(t, "no such function", s.p, i, fn(0, 1), api.ErrNone)
		}
		for i, old := range s.p.Fns {
			for _, bad := range badCodes() {
				checkSwap(t, "code", s.p, i, api.Fn{Args: old.Args, Code: bad}, api.ErrArg)
			}
			for args := range api.MaxArgs + 1 {
				if args != old.Args {
					checkSwap(t, "Args", s.p, i, fn(args, 1), api.ErrType)
				}
			}
		}
	}
}

// P3.2: that the result would be valid does not help, and that it would not be
// is no error of its own: Args that no function may have are other Args.
func TestSwapOfImpossibleArgs(t *testing.T) {
	for _, s := range samples() {
		for _, args := range badArgs() {
			for i := range s.p.Fns {
				checkSwap(t, s.name, s.p, i, fn(args, 1), api.ErrType)
			}
			checkSwap(t, s.name, s.p, len(s.p.Fns), fn(args, 1), api.ErrNone)
			checkSwap(t, s.name, s.p, -1, fn(args, 64), api.ErrNone)
		}
	}
	bad := program(fn(0, 1), fn(1, 65))
	checkSwap(t, "a function that would make the program valid", bad, 1, fn(1, 64), api.ErrArg)
	bad = program(fn(3, 1))
	checkSwap(t, "Args that would make the program valid", bad, 0, fn(0, 1), api.ErrArg)
}

// P3.2, R2: of several errors the one that the chapter names first.
func TestSwapWithSeveralErrors(t *testing.T) {
	good := program(fn(0, 2), fn(3, 2))
	long := program(fn(0, 65), fn(3, 2))
	noCode := api.Fn{Args: 3}
	cases := []struct {
		name string
		p    api.Prog
		i    int
		f    api.Fn
		want api.Errno
	}{
		{"everything", api.Prog{}, 0, api.Fn{Args: -1}, api.ErrArg},
		{"everything, below 0", api.Prog{}, -1, api.Fn{Args: 5, Code: []api.Inst{{Op: 9}}}, api.ErrArg},
		{"program and code", long, 1, noCode, api.ErrArg},
		{"program and number", long, 2, fn(3, 1), api.ErrArg},
		{"program and number below 0", long, -1, fn(3, 1), api.ErrArg},
		{"program and Args", long, 1, fn(2, 1), api.ErrArg},
		{"program, number and Args", long, math.MaxInt, fn(2, 1), api.ErrArg},
		{"no program and number", api.Prog{}, 0, fn(0, 1), api.ErrArg},
		{"code and number", good, 2, noCode, api.ErrArg},
		{"code and number below 0", good, -1, noCode, api.ErrArg},
		{"code and Args", good, 0, noCode, api.ErrArg},
		{"code, number and Args", good, math.MinInt, api.Fn{Args: 9}, api.ErrArg},
		{"too much code, number and Args", good, math.MaxInt, fn(9, 65), api.ErrArg},
		{"number and Args", good, 2, fn(9, 1), api.ErrNone},
		{"number below 0 and Args", good, -1, fn(9, 1), api.ErrNone},
		{"Args alone", good, 1, fn(0, 1), api.ErrType},
	}
	for _, c := range cases {
		checkSwap(t, c.name, c.p, c.i, c.f, c.want)
	}
}

// R3: no call changes a program, a function or bytes that it is given.
func TestArgumentsAreNotModified(t *testing.T) {
	for _, s := range samples() {
		p, want := s.p, clone(s.p)
		b := encoding(p)
		f := api.Fn{Args: 0, Code: code(64)}
		prog.May(p)
		prog.Put(p)
		prog.Get(b)
		prog.Same(p, p)
		prog.Swap(p, 0, f)
		prog.Swap(p, -1, f)
		if !equal(p, want) || !bytes.Equal(b, encoding(want)) || !equal(program(f), program(fn(0, 64))) {
			t.Errorf("%s: an argument became %+v, %v, %+v", s.name, p, b, f)
		}
	}
}

// R3: later changes of the bytes of Put and Get, and of the program, do not
// reach each other.
func TestEncodingsAreNotShared(t *testing.T) {
	for _, s := range samples() {
		want := encoding(s.p)
		given := append([]byte{}, want...)
		p, _ := prog.Get(given)
		clear(given)
		if !equal(p, s.p) {
			t.Errorf("%s: the program became %+v", s.name, p)
		}
		first, second := mustPut(t, p), mustPut(t, p)
		spoil(p)
		if !bytes.Equal(first, want) {
			t.Errorf("%s: the bytes became %v", s.name, first)
		}
		clear(first)
		if !bytes.Equal(second, want) || !bytes.Equal(mustPut(t, s.p), want) {
			t.Errorf("%s: a result of Put changed another one", s.name)
		}
		given = append([]byte{}, want...)
		p, _ = prog.Get(given)
		q, _ := prog.Get(given)
		spoil(p)
		if !bytes.Equal(given, want) || !equal(q, s.p) {
			t.Errorf("%s: a result of Get changed bytes or another result", s.name)
		}
	}
}

// R3: later changes of the program and function that Swap was given do not
// reach its result, nor the other way round.
func TestSwapSharesNothing(t *testing.T) {
	for _, s := range samples() {
		for i := range s.p.Fns {
			p := clone(s.p)
			f := api.Fn{Args: p.Fns[i].Args, Code: other(3)}
			want := clone(s.p)
			want.Fns[i] = api.Fn{Args: f.Args, Code: other(3)}
			q, _ := prog.Swap(p, i, f)
			spoil(p)
			clear(f.Code)
			if !equal(q, want) {
				t.Errorf("%s: the result became %+v; want %+v", s.name, q, want)
			}
			p, f.Code = clone(s.p), other(3)
			q, _ = prog.Swap(p, i, f)
			spoil(q)
			if !equal(p, s.p) || !equal(program(f), program(want.Fns[i])) {
				t.Errorf("%s: the arguments became %+v and %+v", s.name, p, f)
			}
		}
	}
}

// R3: the functions of a result share nothing, even if those of the argument
// do, and appending to one list reaches no other.
func TestFunctionsOfAResultShareNothing(t *testing.T) {
	shared := code(3)
	p := program(api.Fn{Code: shared}, api.Fn{Code: shared}, api.Fn{Code: shared[:2]})
	swapped, _ := prog.Swap(p, 0, api.Fn{Code: shared})
	got, _ := prog.Get(encoding(p))
	for _, q := range []api.Prog{swapped, got} {
		for k := range q.Fns {
			q.Fns[k].Code[0] = api.Inst{Imm: uint32(k) + 1}
		}
		for k, f := range q.Fns {
			_ = append(f.Code, api.Inst{Op: -1}, api.Inst{Op: -1})
			if f.Code[0].Imm != uint32(k)+1 {
				t.Errorf("function %d shares its code: %+v", k, q)
			}
		}
		for k, f := range q.Fns {
			if want := p.Fns[k].Code[1:]; !equal(program(api.Fn{Code: f.Code[1:]}), program(api.Fn{Code: want})) {
				t.Errorf("function %d became %+v; want %+v", k, f.Code[1:], want)
			}
		}
	}
}

// R5: the same arguments yield the same results, whatever was asked between,
// and whatever stands behind the lists within their capacity.
func TestResultsDependOnTheArgumentsOnly(t *testing.T) {
	spare := make([]api.Fn, 1, 9)
	for k := range spare[:9] {
		spare[:9][k] = fn(0, 1)
	}
	long := code(70)
	spare[0].Code = long[:2]
	first := mustPut(t, api.Prog{Fns: spare})
	for _, c := range badPrograms() {
		prog.Put(c.p)
		prog.Get(encoding(c.p))
	}
	if again := mustPut(t, program(fn(0, 2))); !bytes.Equal(first, again) {
		t.Errorf("Put is %v, then %v", first, again)
	}
	checkSame(t, "capacity", api.Prog{Fns: spare}, program(fn(0, 2)), true)
}
