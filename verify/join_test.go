package verify_test

import (
	"testing"

	"drydock/api"
	"drydock/verify"
)

// P11.1: where two ways meet, their shapes are joined.
func TestTwoWays(t *testing.T) {
	p := alone(
		context(6, 1),
		jump(api.Eq, 6, 0, 3),
		mov(0, 10), mov(1, 1), always(2),
		mov(0, 20), mov(2, 2),
		exit(),
	)
	start := with(api.Shape{}, 6, all)
	one, two := with(start, 6, complex(1, top)), with(start, 6, 0)
	checkShapes(t, "two ways", p, 0, []api.Shape{
		{}, start,
		one, with(one, 0, 10+10i), with(with(one, 0, 10+10i), 1, 1+1i),
		two, with(two, 0, 20+20i),
		with(start, 0, 10+20i),
	}, "11111111")
	checkVerify(t, "two ways", p, nil, 6, api.OK)
}

// P11.1: more than two ways, of which each adds words.
func TestManyWays(t *testing.T) {
	p := alone(
		mov(0, 50), context(1, 0),
		jump(api.Eq, 1, 1, 5),
		mov(0, 40), jump(api.Eq, 1, 2, 3),
		mov(0, 60), jump(api.Eq, 1, 3, 1),
		mov(0, 45),
		exit(),
	)
	start := with(with(api.Shape{}, 0, 50+50i), 1, all)
	two, three := with(start, 0, 40+40i), with(start, 0, 60+60i)
	checkShapes(t, "many ways", p, 0, []api.Shape{
		{}, with(api.Shape{}, 0, 50+50i), start,
		start, two,
		two, three,
		three,
		with(start, 0, 40+60i),
	}, "111111111")
}

// P11.1: what is set in one way only is not set where it meets another one,
// though the position was known by the first one alone before.
func TestRegistersOfOneWay(t *testing.T) {
	for _, c := range []struct {
		name string
		code []api.Inst
		n    int // 0: it is unsafe
	}{
		{"set in the way that does not jump", code(context(1, 0), jump(api.Eq, 1, 7, 1), mov(0, 1), exit()), 0},
		{"set in the way that jumps", code(context(1, 0), jump(api.Eq, 1, 7, 1), always(2), mov(0, 1), always(0), exit()), 0},
		{"set in both", code(context(1, 0), jump(api.Eq, 1, 7, 2), mov(0, 1), always(1), mov(0, 2), exit()), 5},
		{"lost behind a helper", code(mov(0, 1), mov(5, 4), context(2, 0), jump(api.Eq, 2, 0, 1), help(api.HelpDraw), by(5, mov(0, 0)), exit()), 0},
		{"kept behind a helper", code(mov(0, 1), mov(6, 4), context(2, 0), jump(api.Eq, 2, 0, 1), help(api.HelpDraw), by(6, mov(0, 0)), exit()), 7},
		{"never the other way", code(mov(1, 7), jump(api.Ne, 1, 7, 1), mov(0, 1), exit()), 4},
		{"always the other way", code(mov(1, 7), jump(api.Eq, 1, 7, 1), mov(0, 1), exit()), 0},
	} {
		if c.n > 0 {
			checkVerify(t, c.name, alone(c.code...), nil, c.n, api.OK)
			continue
		}
		checkError(t, c.name, alone(c.code...), 0, nil, api.ErrSafe)
		checkVerify(t, c.name, alone(c.code...), nil, 0, api.ErrSafe)
	}
}

// P11.1: joined bounds, not those of one way, tell what is within a limit and
// which map is meant.
func TestJoinedBounds(t *testing.T) {
	either := func(a, b uint32, l ...api.Inst) api.Prog {
		return alone(join(code(context(6, 0), mov(1, a), jump(api.Eq, 6, 0, 1), mov(1, b), mov(2, 0), mov(3, 0), mov(4, 0)), l, five())...)
	}
	for _, c := range []struct {
		name string
		p    api.Prog
		want api.Errno
	}{
		{"context within", either(3, 0, by(1, context(0, 0))), api.OK},
		{"context, the first one is not", either(4, 0, by(1, context(0, 0))), api.ErrSafe},
		{"context, the second one is not", either(0, 4, by(1, context(0, 0))), api.ErrSafe},
		{"stack within", either(0, 15, by(1, load(0, 0))), api.OK},
		{"stack, one is not", either(16, 15, by(1, store(2, 0))), api.ErrSafe},
		{"the same map", either(2, 2, help(api.HelpGet)), api.OK},
		{"two maps", either(2, 3, help(api.HelpGet)), api.ErrSafe},
		{"two maps, one of them fits", either(1, 0, help(api.HelpSet)), api.ErrSafe},
		{"two maps, no helper for them", either(1, 0, help(api.HelpDraw)), api.OK},
	} {
		if _, e := verify.Verify(c.p, maps()); e != c.want {
			t.Errorf("%s: Verify is error %d; want %d", c.name, e, c.want)
		}
	}
}

// P11.1: where nothing is known, the shape is zero, and no instruction is unsafe.
func TestUnknownPositions(t *testing.T) {
	s := with(api.Shape{}, 0, 5+5i)
	never := code(exit(), by(7, mov(0, 0)), compute(api.Add, 6, 1), context(1, 4), load(1, 16), store(1, 99), help(top), help(api.HelpGet), call(0), call(99), always(api.MaxOff), jump(api.Lt, 7, 0, api.MaxOff))
	for _, i := range never {
		checkShapes(t, "behind the end", alone(mov(0, 5), exit(), i), 0, []api.Shape{{}, s, {}}, "110")
		checkShapes(t, "jumped over", alone(mov(0, 5), always(1), i, exit()), 0, []api.Shape{{}, s, {}, s}, "1101")
		checkShapes(t, "always jumped over", alone(mov(0, 5), jump(api.Lt, 0, 6, 1), i, exit()), 0, []api.Shape{{}, s, {}, s}, "1101")
		checkShapes(t, "never jumped to", alone(mov(0, 5), jump(api.Ge, 0, 6, 1), exit(), i), 0, []api.Shape{{}, s, s, {}}, "1110")
		checkShapes(t, "behind an unknown jump to it", alone(mov(0, 5), exit(), always(1), exit(), i), 0, []api.Shape{{}, s, {}, {}, {}}, "11000")
	}
}

// P11.1: comparisons one behind the other leave fewer and fewer words.
func TestCutAgain(t *testing.T) {
	p := alone(
		context(0, 0),
		jump(api.Ge, 0, 100, 3),
		jump(api.Lt, 0, 10, 2),
		jump(api.Eq, 0, 10, 1),
		always(0),
		exit(),
	)
	s := func(b complex128) api.Shape { return with(api.Shape{}, 0, b) }
	checkShapes(t, "cut", p, 0, []api.Shape{{}, s(all), s(99i), s(10 + 99i), s(11 + 99i), s(all)}, "111111")
}
