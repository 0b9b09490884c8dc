package course_test

import (
	"fmt"
	"math"
	"slices"
	"testing"

	"drydock/api"
	"drydock/course"
)

const top = math.MaxUint32 // the greatest word

func mov(dst int, v uint32) api.Inst { return api.Inst{Op: api.OpAlu, Fn: api.Mov, Dst: dst, Imm: v} }

// plain is an instruction with one successor that costs nothing additional.
func plain() api.Inst { return mov(0, 1) }

func jump(fn, off int) api.Inst { return api.Inst{Op: api.OpJump, Fn: fn, Off: off} }

func always(off int) api.Inst { return jump(api.Always, off) }

// maybe is a conditional jump.
func maybe(off int) api.Inst { return jump(api.Eq, off) }

func call(fn uint32) api.Inst { return api.Inst{Op: api.OpCall, Imm: fn} }

func exit() api.Inst { return api.Inst{Op: api.OpExit} }

func code(l ...api.Inst) []api.Inst { return l }

// times is code that consists of the same instruction.
func times(count int, i api.Inst) []api.Inst {
	l := make([]api.Inst, count)
	for k := range l {
		l[k] = i
	}
	return l
}

// join lays code behind each other in memory of its own.
func join(parts ...[]api.Inst) []api.Inst { return slices.Clip(slices.Concat(parts...)) }

// kinds are valid instructions of each kind but jumps and OpExit, whose Imm may
// be taken for something else.
func kinds() []api.Inst {
	l := []api.Inst{
		{Op: api.OpAlu, Fn: api.Mov, Dst: 7, Reg: true, Src: 3},
		{Op: api.OpAlu, Fn: api.Shr, Dst: 7, Imm: top},
		{Op: api.OpCtx, Dst: 1, Imm: 3},
		{Op: api.OpCtx, Dst: 1, Reg: true, Src: 2},
		{Op: api.OpLoad, Dst: 5, Imm: 1},
		{Op: api.OpLoad, Dst: 5, Reg: true, Src: 6},
		{Op: api.OpStore, Dst: 6, Imm: 1},
		{Op: api.OpStore, Dst: 6, Reg: true, Src: 1},
		{Op: api.OpHelp},
		{Op: api.OpHelp, Imm: 1},
		{Op: api.OpHelp, Imm: top},
		{Op: api.OpCall},
		{Op: api.OpCall, Imm: 1},
		{Op: api.OpCall, Imm: top},
	}
	for fn := range api.Alus {
		l = append(l, api.Inst{Op: api.OpAlu, Fn: fn, Dst: 2, Imm: 1})
	}
	return l
}

// conditions are conditional jumps with each comparison, with a number and with
// a register.
func conditions(off int) []api.Inst {
	var l []api.Inst
	for fn := api.Always + 1; fn < api.Conds; fn++ {
		l = append(l,
			api.Inst{Op: api.OpJump, Fn: fn, Dst: 4, Imm: top, Off: off},
			api.Inst{Op: api.OpJump, Fn: fn, Dst: 7, Reg: true, Src: 5, Off: off})
	}
	return l
}

// wrong are instructions that are not valid.
func wrong() []api.Inst {
	return []api.Inst{
		{Op: -1},
		{Op: api.Ops},
		{Op: api.OpAlu, Fn: api.Alus},
		{Op: api.OpAlu, Fn: -1},
		{Op: api.OpAlu, Dst: api.Regs},
		{Op: api.OpAlu, Off: 1},
		{Op: api.OpAlu, Reg: true, Imm: 1},
		{Op: api.OpAlu, Src: 1},
		{Op: api.OpJump, Fn: api.Conds},
		{Op: api.OpJump, Fn: api.Always, Imm: 1},
		{Op: api.OpJump, Fn: api.Always, Off: -1},
		{Op: api.OpJump, Fn: api.Eq, Off: -1},
		{Op: api.OpJump, Fn: api.Eq, Off: api.MaxOff + 1},
		{Op: api.OpJump, Fn: api.Eq, Off: math.MaxInt},
		{Op: api.OpJump, Fn: api.Eq, Off: math.MinInt},
		{Op: api.OpCtx, Dst: -1},
		{Op: api.OpLoad, Fn: 1},
		{Op: api.OpStore, Src: api.Regs, Reg: true},
		{Op: api.OpHelp, Dst: 1},
		{Op: api.OpHelp, Off: 1},
		{Op: api.OpCall, Reg: true},
		{Op: api.OpCall, Off: 2},
		{Op: api.OpExit, Imm: 1},
		{Op: api.OpExit, Off: 1},
		{Op: math.MinInt, Fn: math.MinInt, Dst: math.MinInt, Src: math.MinInt, Off: math.MinInt},
		{Op: math.MaxInt, Fn: math.MaxInt, Dst: math.MaxInt, Src: math.MaxInt, Off: math.MaxInt, Reg: true, Imm: top},
	}
}

// somewhere are positions, most of which no code has.
var somewhere = []int{math.MinInt, -65536, -65, -64, -2, -1, 0, 1, 2, 31, 62, 63, 64, 65, 66, 65535, 65536, math.MaxInt - 1, math.MaxInt}

// checkNot checks what the calls return for code that is not valid.
func checkNot(t *testing.T, name string, l []api.Inst) {
	t.Helper()
	for _, at := range somewhere {
		if got := course.Next(l, at); len(got) > 0 {
			t.Errorf("%s: Next at %d is %v; want none", name, at, got)
		}
	}
	for at := range l {
		if got := course.Next(l, at); len(got) > 0 {
			t.Errorf("%s: Next at %d is %v; want none", name, at, got)
		}
	}
	if got := course.Reach(l); len(got) > 0 {
		t.Errorf("%s: Reach is %v; want none", name, got)
	}
	if course.Fine(l) {
		t.Errorf("%s: Fine", name)
	}
	for _, calls := range [][]int{nil, {}, {7}, {7, 8, 9}} {
		if got := course.Longest(l, calls...); got != 0 {
			t.Errorf("%s: Longest with %v is %d; want 0", name, calls, got)
		}
	}
	for _, p := range []api.Prog{
		{Fns: []api.Fn{{Code: l}}},
		{Fns: []api.Fn{{Code: code(call(1), exit())}, {Code: l}}},
		{Fns: []api.Fn{{Code: l}, {Code: code(exit())}}},
	} {
		if got := course.Budget(p); got != 0 {
			t.Errorf("%s: Budget is %d; want 0", name, got)
		}
	}
}

// P8.1, P8.2, P8.3: code has 1 to 64 instructions.
func TestSizes(t *testing.T) {
	checkNot(t, "nil", nil)
	checkNot(t, "none", []api.Inst{})
	for _, size := range []int{1, 2, 3, 31, 32, 33, 62, 63, 64} {
		checkRow(t, size)
	}
	for _, size := range []int{65, 66, 127, 128, 129, 256, 257, 1000} {
		checkNot(t, fmt.Sprint(size), append(times(size-1, plain()), exit()))
		checkNot(t, fmt.Sprint(size, " behind the end"), append(code(exit()), times(size-1, plain())...))
	}
}

// checkRow checks what the calls return for code with one path, that ends with
// an OpExit.
func checkRow(t *testing.T, size int) {
	t.Helper()
	l := append(times(size-1, plain()), exit())
	for at := range size - 1 {
		checkNext(t, l, at, at+1)
	}
	checkNext(t, l, size-1)
	checkNext(t, l, size)
	if got := course.Reach(l); len(got) != size || slices.Contains(got, false) {
		t.Errorf("%d: Reach is %v; want true for all", size, got)
	}
	if !course.Fine(l) {
		t.Errorf("%d: not Fine", size)
	}
	if got := course.Longest(l); got != size {
		t.Errorf("%d: Longest is %d", size, got)
	}
	if got := course.Budget(api.Prog{Fns: []api.Fn{{Code: l}}}); got != size {
		t.Errorf("%d: Budget is %d", size, got)
	}
}

// P8.1, P8.2, P8.3: all instructions of code are valid, also those that nothing
// reaches.
func TestWrongInstructions(t *testing.T) {
	for _, i := range wrong() {
		name := fmt.Sprintf("%+v", i)
		checkNot(t, name, code(i))
		for _, size := range []int{2, 3, 64} {
			for _, at := range []int{0, 1, size / 2, size - 2, size - 1} {
				l := append(times(size-1, plain()), exit())
				l[at] = i
				checkNot(t, fmt.Sprint(name, " at ", at), l)
				l = append(code(exit()), times(size-1, plain())...)
				l[at] = i
				checkNot(t, fmt.Sprint(name, " behind the end at ", at), l)
			}
		}
	}
}

func checkNext(t *testing.T, l []api.Inst, at int, want ...int) {
	t.Helper()
	if got := course.Next(l, at); !slices.Equal(got, want) {
		t.Errorf("Next of %+v at %d is %v; want %v", l, at, got, want)
	}
}

// around are the positions at which an instruction is put into code with a
// number of instructions.
func around(size int) []int {
	l := []int{0, 1, size / 2, size - 2, size - 1}
	slices.Sort(l)
	return slices.DeleteFunc(slices.Compact(l), func(at int) bool { return at < 0 || at >= size })
}

// with is code that consists of plain instructions and one other.
func with(size, at int, i api.Inst) []api.Inst {
	l := times(size, plain())
	l[at] = i
	return l
}

// P8.1: Next of each kind of instruction at each position, whatever is around
// it.
func TestNextOfKinds(t *testing.T) {
	for _, size := range []int{1, 2, 3, 64} {
		for _, at := range around(size) {
			checkNext(t, with(size, at, exit()), at)
			for _, i := range kinds() {
				checkNext(t, with(size, at, i), at, at+1)
			}
			for _, off := range offsets(size, at) {
				checkNext(t, with(size, at, always(off)), at, at+1+off)
				for _, i := range conditions(off) {
					checkJump(t, with(size, at, i), at, off)
				}
			}
		}
	}
}

func checkJump(t *testing.T, l []api.Inst, at, off int) {
	t.Helper()
	if off == 0 {
		checkNext(t, l, at, at+1)
		return
	}
	checkNext(t, l, at, at+1, at+1+off)
}

// offsets are those of jumps to the next position, just to the last one, to the
// end, beyond it, and as far as possible.
func offsets(size, at int) []int {
	l := []int{0, 1, 2, size - 1 - at - 2, size - 1 - at - 1, size - 1 - at, size - at, 255, 256, api.MaxOff - 1, api.MaxOff}
	return slices.DeleteFunc(l, func(off int) bool { return off < 0 })
}

// P8.1: Next at positions that the code does not have.
func TestNextElsewhere(t *testing.T) {
	for _, size := range []int{1, 2, 3, 63, 64} {
		for _, i := range []api.Inst{plain(), exit(), always(0), always(3), maybe(0), maybe(3), call(0)} {
			l := times(size, i)
			for _, at := range somewhere {
				if at < 0 || at >= size {
					checkNext(t, l, at)
				}
			}
			checkNext(t, l, size)
			checkNext(t, l, -size)
		}
	}
}

// P8.1: Next at positions that nothing reaches.
func TestNextOfUnreached(t *testing.T) {
	l := code(exit(), plain(), maybe(1), always(7), plain(), exit())
	for at, want := range [][]int{nil, {2}, {3, 4}, {11}, {5}, nil} {
		checkNext(t, l, at, want...)
	}
}

// bits tells of a text whether each of its bytes is a 1.
func bits(s string) []bool {
	var l []bool
	for _, b := range []byte(s) {
		l = append(l, b == '1')
	}
	return l
}

// P8.1: Reach and Fine.
func TestReachAndFine(t *testing.T) {
	for _, c := range []struct {
		name  string
		l     []api.Inst
		reach string
		fine  bool
	}{
		{"exit", code(exit()), "1", true},
		{"no end", code(plain()), "1", false},
		{"no end behind more", code(plain(), plain(), plain()), "111", false},
		{"exit at the end", code(plain(), plain(), exit()), "111", true},
		{"exit before the end", code(plain(), exit(), plain()), "110", true},
		{"call at the end", code(exit(), call(1)), "10", true},
		{"call to the end", code(plain(), call(1)), "11", false},
		{"help to the end", code(plain(), api.Inst{Op: api.OpHelp}), "11", false},
		{"jump to itself and more", code(always(0)), "1", false},
		{"jump to the next", code(always(0), exit()), "11", true},
		{"jump over one", code(always(1), plain(), exit()), "101", true},
		{"jump just to the last", code(always(2), plain(), plain(), exit()), "1001", true},
		{"jump just to the end", code(always(3), plain(), plain(), exit()), "1000", false},
		{"jump beyond the end", code(always(4), plain(), plain(), exit()), "1000", false},
		{"jump far beyond the end", code(always(api.MaxOff), plain(), plain(), exit()), "1000", false},
		{"condition to the next", code(maybe(0), exit()), "11", true},
		{"condition at the end", code(plain(), maybe(0)), "11", false},
		{"condition over one", code(maybe(1), plain(), exit()), "111", true},
		{"condition just to the last", code(maybe(2), exit(), plain(), exit()), "1101", true},
		{"condition just to the end", code(maybe(3), plain(), plain(), exit()), "1111", false},
		{"condition beyond the end", code(maybe(4), plain(), plain(), exit()), "1111", false},
		{"condition far beyond the end", code(maybe(api.MaxOff), exit()), "11", false},
		{"condition whose target has no end", code(maybe(1), exit(), plain()), "111", false},
		{"unreached jump beyond the end", code(exit(), always(7)), "10", true},
		{"unreached jump just to the end", code(exit(), always(0)), "10", true},
		{"unreached condition beyond the end", code(exit(), maybe(api.MaxOff), exit()), "100", true},
		{"jump over a jump beyond the end", code(always(1), always(9), exit()), "101", true},
		{"jump over a jump to the last", code(always(2), plain(), always(1), exit(), plain()), "10010", true},
		{"unreached jump to a position", code(always(2), always(1), plain(), exit()), "1001", true},
		{"unreached row", code(exit(), plain(), plain(), maybe(0), plain()), "10000", true},
		{"two ways", code(maybe(2), plain(), always(1), plain(), exit()), "11111", true},
		{"two ways, one of no end", code(maybe(2), plain(), exit(), always(1), exit()), "11110", false},
		{"both ways behind one another", code(always(1), exit(), always(1), exit(), always(1), plain(), exit()), "1010101", true},
		{"exit in each way", code(maybe(1), exit(), maybe(1), exit(), exit(), plain()), "111110", true},
	} {
		if got := course.Reach(c.l); !slices.Equal(got, bits(c.reach)) {
			t.Errorf("%s: Reach is %v; want %s", c.name, got, c.reach)
		}
		if got := course.Fine(c.l); got != c.fine {
			t.Errorf("%s: Fine is %v", c.name, got)
		}
	}
}

// P8.1: Reach and Fine with one jump in code of the greatest size.
func TestReachOfLongCode(t *testing.T) {
	for _, at := range []int{0, 1, 30, 62, 63} {
		for _, off := range offsets(64, at) {
			checkLong(t, at, off, always(off), true)
			for _, i := range conditions(off) {
				checkLong(t, at, off, i, false)
			}
		}
	}
}

func checkLong(t *testing.T, at, off int, i api.Inst, over bool) {
	t.Helper()
	last := 63
	l := with(64, at, i)
	if at != last {
		l[last] = exit()
	}
	want := make([]bool, 64)
	for k := range want {
		want[k] = !over || k <= at || k > at+off
	}
	if got := course.Reach(l); !slices.Equal(got, want) {
		t.Errorf("%+v at %d: Reach is %v; want %v", i, at, got, want)
	}
	if got := course.Fine(l); got != (at+1+off <= last) {
		t.Errorf("%+v at %d: Fine is %v", i, at, got)
	}
}

// The chapter's example.
func TestExample(t *testing.T) {
	for _, i := range conditions(1) {
		l := code(i, plain(), exit())
		checkNext(t, l, 0, 1, 2)
		checkLongest(t, "example", l, 3)
	}
}
