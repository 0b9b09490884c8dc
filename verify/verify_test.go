package verify_test

import (
	"fmt"
	"math"
	"slices"
	"testing"

	"drydock/api"
	"drydock/bounds"
	"drydock/course"
	"drydock/prog"
	"drydock/verify"
)

const top = math.MaxUint32 // the greatest word

// all are the bounds of all words.
const all = complex(0, top)

type (
	bools = [api.Regs]bool
	ends  = [api.Regs]complex128
)

func compute(fn, dst int, v uint32) api.Inst {
	return api.Inst{Op: api.OpAlu, Fn: fn, Dst: dst, Imm: v}
}

func mov(dst int, v uint32) api.Inst { return compute(api.Mov, dst, v) }

func always(off int) api.Inst { return api.Inst{Op: api.OpJump, Off: off} }

func jump(fn, dst int, v uint32, off int) api.Inst {
	return api.Inst{Op: api.OpJump, Fn: fn, Dst: dst, Imm: v, Off: off}
}

func context(dst int, index uint32) api.Inst {
	return api.Inst{Op: api.OpCtx, Dst: dst, Imm: index}
}

func load(dst int, index uint32) api.Inst { return api.Inst{Op: api.OpLoad, Dst: dst, Imm: index} }

func store(dst int, index uint32) api.Inst { return api.Inst{Op: api.OpStore, Dst: dst, Imm: index} }

func help(n uint32) api.Inst { return api.Inst{Op: api.OpHelp, Imm: n} }

func call(fn uint32) api.Inst { return api.Inst{Op: api.OpCall, Imm: fn} }

func exit() api.Inst { return api.Inst{Op: api.OpExit} }

// by returns i with a register as its operand.
func by(src int, i api.Inst) api.Inst {
	i.Reg, i.Src, i.Imm = true, src, 0
	return i
}

func code(l ...api.Inst) []api.Inst { return l }

func join(parts ...[]api.Inst) []api.Inst { return slices.Concat(parts...) }

func fn(args int, l ...api.Inst) api.Fn { return api.Fn{Args: args, Code: l} }

func program(l ...api.Fn) api.Prog { return api.Prog{Fns: l} }

func alone(l ...api.Inst) api.Prog { return program(fn(0, l...)) }

// shapeOf returns the shape in which the registers in set have the bounds r.
func shapeOf(set bools, r ends) api.Shape {
	s := api.Shape{Set: set}
	for n := range r {
		if set[n] {
			s.R[n] = r[n]
		}
	}
	return s
}

// with returns s with register n set and with the bounds b.
func with(s api.Shape, n int, b complex128) api.Shape {
	s.Set[n], s.R[n] = true, b
	return s
}

// behind returns s behind a call, by the definition of shape.Back.
func behind(s api.Shape) api.Shape {
	for n := 1; n <= 5; n++ {
		s.Set[n], s.R[n] = false, 0
	}
	return with(s, 0, all)
}

// subsets returns all sets of registers.
func subsets() []bools {
	l := make([]bools, 1<<api.Regs)
	for k := range l {
		for n := range l[k] {
			l[k][n] = k>>n&1 == 1
		}
	}
	return l
}

// maps returns a schema of each kind.
func maps() []api.Schema {
	return []api.Schema{
		{Kind: api.Hash, Cap: 4, Words: 2},
		{Kind: api.Ring, Cap: 16, Words: 1, Ver: 7},
		{Kind: api.Array, Cap: 3, Words: 4, Ver: api.MaxVer},
		{Kind: api.Lru, Cap: 2, Words: 1},
	}
}

// wrongMaps returns lists of schemas that may not be.
func wrongMaps() [][]api.Schema {
	var l [][]api.Schema
	for _, s := range []api.Schema{
		{},
		{Kind: -1, Cap: 1, Words: 1},
		{Kind: api.Maps, Cap: 1, Words: 1},
		{Kind: api.Hash, Cap: 0, Words: 1},
		{Kind: api.Hash, Cap: api.MaxKeys + 1, Words: 1},
		{Kind: api.Hash, Cap: 1, Words: 0},
		{Kind: api.Hash, Cap: 1, Words: api.MaxWords + 1},
		{Kind: api.Ring, Cap: 1, Words: 2},
		{Kind: api.Hash, Cap: 1, Words: 1, Ver: -1},
		{Kind: api.Hash, Cap: 1, Words: 1, Ver: api.MaxVer + 1},
		{Kind: math.MinInt, Cap: math.MinInt, Words: math.MinInt, Ver: math.MinInt},
	} {
		for k := range maps() {
			with := maps()
			with[k] = s
			l = append(l, []api.Schema{s}, with)
		}
	}
	return append(l,
		append(maps(), maps()[0]),
		append(maps(), maps()...),
		make([]api.Schema, api.MaxMaps+1),
		make([]api.Schema, 1000),
	)
}

// five is code that returns 5.
func five() []api.Inst { return code(mov(0, 5), exit()) }

// failing is code that may fail.
func failing() []api.Inst { return code(exit()) }

// wrongPrograms returns what is not valid, among it what would be unsafe.
func wrongPrograms() map[string]api.Prog {
	l := map[string]api.Prog{
		"arguments of the first function": program(fn(1, five()...)),
		"no code":                         program(fn(0)),
		"no code behind another one":      program(fn(0, five()...), fn(0)),
		"too few arguments":               program(fn(0, five()...), fn(-1, five()...)),
		"too many arguments":              program(fn(0, five()...), fn(api.MaxArgs+1, five()...)),
		"too much code":                   alone(append(slices.Repeat(code(mov(0, 5)), api.MaxCode), exit())...),
		"too many functions":              {Fns: slices.Repeat([]api.Fn{fn(0, five()...)}, api.MaxFns+1)},
		"many functions":                  {Fns: make([]api.Fn, 1000)},
	}
	for _, i := range []api.Inst{
		{Op: -1}, {Op: api.Ops}, {Fn: api.Alus}, {Dst: api.Regs}, {Dst: -1}, {Src: 1}, {Src: api.Regs, Reg: true}, {Off: 1}, {Reg: true, Imm: 1},
		{Op: api.OpJump, Fn: api.Conds}, {Op: api.OpJump, Off: -1}, {Op: api.OpJump, Off: api.MaxOff + 1}, {Op: api.OpJump, Imm: 1},
		{Op: api.OpHelp, Imm: api.HelpDraw, Dst: 1}, {Op: api.OpCall, Imm: 1, Reg: true}, {Op: api.OpExit, Imm: 1},
		{Op: math.MinInt, Fn: math.MinInt, Dst: math.MinInt, Src: math.MinInt, Off: math.MinInt},
	} {
		name := fmt.Sprintf("%+v", i)
		l[name] = alone(mov(0, 5), i, exit())
		l[name+" behind the end"] = alone(mov(0, 5), exit(), i)
		l[name+" in another function"] = program(fn(0, five()...), fn(0, append(five(), i)...))
		l[name+" behind what is unsafe"] = program(fn(0, failing()...), fn(0, i))
	}
	return l
}

// checkError checks that Shapes returns an error, and nothing beside it.
func checkError(t *testing.T, name string, p api.Prog, fn int, l []api.Schema, want api.Errno) {
	t.Helper()
	if s, known, e := verify.Shapes(p, fn, l); e != want || len(s) > 0 || len(known) > 0 {
		t.Errorf("%s: Shapes of function %d is %v, %v, %d; want error %d", name, fn, s, known, e, want)
	}
}

// checkVerify checks what Verify returns.
func checkVerify(t *testing.T, name string, p api.Prog, l []api.Schema, n int, want api.Errno) {
	t.Helper()
	if got, e := verify.Verify(p, l); got != n || e != want {
		t.Errorf("%s: Verify is %d, %d; want %d, %d", name, got, e, n, want)
	}
}

// strange are numbers that no function of a few has.
func strange() []int {
	return []int{math.MinInt, math.MinInt + 1, -1 << 32, -256, -8, -2, -1, 8, 9, 64, 256, 1 << 16, 1 << 32, 1<<32 + 1, math.MaxInt - 1, math.MaxInt}
}

// P11.1, P11.2: a program that is not valid is ErrArg, whatever else is wrong.
func TestWrongPrograms(t *testing.T) {
	for name, p := range wrongPrograms() {
		if prog.May(p) {
			t.Fatalf("%s: it is valid", name)
		}
		for n := range len(p.Fns) + 1 {
			checkError(t, name, p, n, maps(), api.ErrArg)
		}
		for _, n := range strange() {
			checkError(t, name, p, n, nil, api.ErrArg)
		}
		checkVerify(t, name, p, maps(), 0, api.ErrArg)
		checkVerify(t, name, p, make([]api.Schema, 9), 0, api.ErrArg)
	}
	for _, p := range []api.Prog{{}, {Fns: []api.Fn{}}} {
		for _, l := range append(wrongMaps(), nil, maps()) {
			checkError(t, "no functions", p, 0, l, api.ErrArg)
			checkVerify(t, "no functions", p, l, 0, api.ErrArg)
		}
	}
}

// P11.1, P11.2: so are schemas, even if the program has no use for them.
func TestWrongSchemas(t *testing.T) {
	for k, l := range wrongMaps() {
		name := fmt.Sprint("schemas ", k)
		for _, p := range []api.Prog{alone(five()...), alone(failing()...), alone(mov(0, 1), always(9), exit())} {
			for _, n := range append(strange(), 0, 1) {
				checkError(t, name, p, n, l, api.ErrArg)
			}
			checkVerify(t, name, p, l, 0, api.ErrArg)
		}
	}
}

// P11.1, P11.2: there are up to four schemas, also none.
func TestHowManySchemas(t *testing.T) {
	for count := range len(maps()) + 1 {
		l := maps()[:count]
		if _, _, e := verify.Shapes(alone(five()...), 0, l); e != api.OK {
			t.Errorf("%d schemas: %d", count, e)
		}
		checkVerify(t, fmt.Sprint(count, " schemas"), alone(five()...), l, 2, api.OK)
	}
	checkVerify(t, "none", alone(five()...), []api.Schema{}, 2, api.OK)
}

// P11.1: there is no such function, whether or not those that there are may fail.
func TestWrongFunctions(t *testing.T) {
	for count := 1; count <= api.MaxFns; count++ {
		for _, c := range [][]api.Inst{five(), failing()} {
			p := api.Prog{Fns: slices.Repeat([]api.Fn{fn(0, c...)}, count)}
			for _, n := range append(strange(), count, count+1, -count) {
				checkError(t, fmt.Sprint(count, " functions"), p, n, maps(), api.ErrNone)
			}
		}
	}
}

// P11.1: Shapes looks at one function, in which the registers of its arguments
// are set at first.
func TestShapesAtTheStart(t *testing.T) {
	for args := range api.MaxArgs + 1 {
		want := api.Shape{}
		for k := range args {
			want = with(want, 1+k, all)
		}
		p := program(fn(0, failing()...), fn(args, five()...), fn(1, failing()...))
		checkShapes(t, fmt.Sprint(args, " arguments"), p, 1, []api.Shape{want, with(want, 0, 5+5i)}, "11")
		checkError(t, "first", p, 0, nil, api.ErrSafe)
		checkError(t, "last", p, 2, nil, api.ErrSafe)
		p = program(fn(0, five()...), fn(args, failing()...))
		checkError(t, "alone", p, 1, nil, api.ErrSafe)
	}
}

// bits tells of a text whether each of its bytes is a 1.
func bits(s string) []bool {
	var l []bool
	for _, b := range []byte(s) {
		l = append(l, b == '1')
	}
	return l
}

// checkShapes checks what Shapes returns without an error.
func checkShapes(t *testing.T, name string, p api.Prog, fn int, want []api.Shape, known string) {
	t.Helper()
	s, is, e := verify.Shapes(p, fn, maps())
	if e != api.OK || !slices.Equal(s, want) || !slices.Equal(is, bits(known)) {
		t.Errorf("%s: Shapes is\n%v, %v, %d; want\n%v, %v, 0", name, s, is, e, want, bits(known))
	}
}

// P11.2: each function is looked at, also those that nothing calls.
func TestVerifyOfAllFunctions(t *testing.T) {
	for count := 1; count <= api.MaxFns; count++ {
		for bad := range count {
			p := api.Prog{Fns: slices.Repeat([]api.Fn{fn(0, five()...)}, count)}
			checkVerify(t, "all are safe", p, nil, 2, api.OK)
			for name, c := range map[string][]api.Inst{
				"unsafe":           failing(),
				"no end":           code(mov(0, 1)),
				"far jump":         code(mov(0, 1), exit(), always(0)),
				"unknown function": code(mov(0, 1), exit(), call(uint32(count))),
			} {
				p.Fns[bad].Code = c
				checkVerify(t, fmt.Sprint(name, " in ", bad, " of ", count), p, nil, 0, api.ErrSafe)
			}
		}
	}
}

// neverTaken are jumps for which the comparison with a register that is 5 does
// not hold.
func neverTaken(off int) []api.Inst {
	return []api.Inst{
		jump(api.Eq, 0, 6, off), jump(api.Ne, 0, 5, off), jump(api.Lt, 0, 5, off), jump(api.Ge, 0, 6, off),
		by(0, jump(api.Ne, 0, 0, off)),
	}
}

// P11.2: a jump goes to a position of its own function, also where nothing is
// known, and also if it is never taken.
func TestVerifyOfJumps(t *testing.T) {
	for size := 4; size <= api.MaxCode; size++ {
		rest := slices.Repeat(five(), size)
		for _, off := range []int{0, 1, size - 5, size - 4, size - 3, size - 2, size - 1, size, api.MaxOff - 1, api.MaxOff} {
			off = max(off, 0)
			for _, i := range append(neverTaken(off), always(off), jump(api.Eq, 0, 5, off)) {
				p := alone(append(code(mov(0, 5), exit(), i), rest[:size-3]...)...)
				checkJump(t, fmt.Sprintf("unreached %+v of %d", i, size), p, 2+1+off < size)
			}
			for _, i := range neverTaken(off) {
				p := alone(append(code(mov(0, 5), i), rest[:size-2]...)...)
				checkJump(t, fmt.Sprintf("never taken %+v of %d", i, size), p, 1+1+off < size)
			}
		}
	}
}

func checkJump(t *testing.T, name string, p api.Prog, within bool) {
	t.Helper()
	if _, _, e := verify.Shapes(p, 0, nil); e != api.OK {
		t.Fatalf("%s: Shapes is %d", name, e)
	}
	if within {
		checkVerify(t, name, p, nil, course.Budget(p), api.OK)
	} else {
		checkVerify(t, name, p, nil, 0, api.ErrSafe)
	}
}

// P11.2: a call names a function that exists, also where nothing is known;
// there, it may be that of the caller, or a smaller one.
func TestVerifyOfCalls(t *testing.T) {
	for count := 1; count <= api.MaxFns; count++ {
		for caller := range count {
			for _, n := range []uint32{0, 1, 2, 3, 4, 5, 6, 7, 8, 9, 255, 256, 1 << 16, 1 << 31, top - 1, top} {
				p := api.Prog{Fns: slices.Repeat([]api.Fn{fn(0, five()...)}, count)}
				p.Fns[caller].Code = append(five(), call(n))
				if _, _, e := verify.Shapes(p, caller, nil); e != api.OK {
					t.Fatalf("Shapes is %d", e)
				}
				name := fmt.Sprint(count, " functions, ", caller, " names ", n)
				if n < uint32(count) {
					checkVerify(t, name, p, nil, 2, api.OK)
				} else {
					checkVerify(t, name, p, nil, 0, api.ErrSafe)
				}
			}
		}
	}
}

// P11.2: where nothing is known, everything else may be.
func TestVerifyOfUnreached(t *testing.T) {
	p := alone(mov(0, 5), exit(),
		exit(), by(7, mov(0, 0)), compute(api.Add, 6, 1), context(1, 4), by(3, context(1, 0)), load(1, 16), store(1, 99), store(7, 0),
		help(api.Helps), help(top), help(api.HelpGet), jump(api.Lt, 7, 0, 0), by(6, jump(api.Ge, 7, 0, 0)), call(0), mov(2, 2))
	checkVerify(t, "unreached", p, nil, 2, api.OK)
}

// costing returns a valid and safe program with a Budget.
func costing(budget int) api.Prog {
	movs := slices.Repeat(code(mov(0, 1)), api.MaxCode)
	c, rest := code(mov(0, 1)), budget-2
	for rest > api.MaxCode {
		c = append(c, call(1))
		rest -= 1 + api.MaxCode
	}
	last := five()
	if rest > len(last) {
		c = append(c, call(2))
		last = append(movs[:rest-2:rest-2], exit())
	} else {
		c = append(c, movs[:rest]...)
	}
	return program(fn(0, append(c, exit())...), fn(0, append(movs[1:], exit())...), fn(0, last...))
}

// P11.2: a Budget of 2000 is not too great, one of 2001 is.
func TestBudgets(t *testing.T) {
	for _, n := range []int{2, 3, 4, 5, 6, 66, 67, 68, 69, 1000, 1998, 1999, 2000} {
		if got := course.Budget(costing(n)); got != n {
			t.Fatalf("the Budget is %d; want %d", got, n)
		}
		checkVerify(t, fmt.Sprint(n), costing(n), maps(), n, api.OK)
	}
	for _, n := range []int{2001, 2002, 2040, 2100} {
		if got := course.Budget(costing(n)); got != n {
			t.Fatalf("the Budget is %d; want %d", got, n)
		}
		checkVerify(t, fmt.Sprint(n), costing(n), maps(), 0, api.ErrLong)
	}
}

// greatest returns a safe program whose Budget is as great as there is one.
func greatest() api.Prog {
	var p api.Prog
	for k := range uint32(api.MaxFns - 1) {
		p.Fns = append(p.Fns, fn(0, append(slices.Repeat(code(call(k+1)), api.MaxCode-1), exit())...))
	}
	return api.Prog{Fns: append(p.Fns, fn(0, five()...))}
}

// P11.2: what may fail is ErrSafe, also if it is too long.
func TestSafetyBeforeBudget(t *testing.T) {
	checkVerify(t, "greatest", greatest(), nil, 0, api.ErrLong)
	for _, c := range [][]api.Inst{failing(), code(mov(0, 1), exit(), always(0)), code(mov(0, 1), exit(), call(api.MaxFns))} {
		p := greatest()
		p.Fns[api.MaxFns-1].Code = c
		checkVerify(t, "greatest", p, nil, 0, api.ErrSafe)
		p = costing(2001)
		p.Fns = append(p.Fns, fn(0, c...))
		checkVerify(t, "great", p, nil, 0, api.ErrSafe)
	}
}

// P11.2: what may be left out of a path counts for the Budget, too.
func TestBudgetOfUnknown(t *testing.T) {
	p := alone(mov(0, 5), jump(api.Eq, 0, 6, 1), exit(), load(0, 99), load(0, 99), exit())
	checkShapes(t, "unknown", p, 0, []api.Shape{{}, with(api.Shape{}, 0, 5+5i), with(api.Shape{}, 0, 5+5i), {}, {}, {}}, "111000")
	checkVerify(t, "unknown", p, nil, 5, api.OK)
}

// The chapter's examples.
func TestExamples(t *testing.T) {
	checkVerify(t, "five", alone(five()...), nil, 2, api.OK)
	checkVerify(t, "end", alone(exit()), nil, 0, api.ErrSafe)
}

// given returns code behind which just the registers in set are set, with the
// bounds r, which are valid.
func given(set bools, r ends) []api.Inst {
	var l []api.Inst
	for n := range r {
		low, high, _ := bounds.Ends(r[n])
		if set[n] && low == high {
			l = append(l, mov(n, low))
		} else if set[n] {
			l = append(l, context(n, 0), compute(api.And, n, high-low), compute(api.Add, n, low))
		}
	}
	return l
}
