package interp_test

import (
	"slices"
	"testing"

	"drydock/api"
	"drydock/interp"
)

// sample is a call of Call.
type sample struct {
	name string
	p    api.Prog
	n    int
	e    api.Env
	fuel int
	a    []uint32
}

// samples are calls that end in each way, with and without helpers: where E is
// e, where it has tables of its own, and where a table is not valid.
func samples() []sample {
	plain, none := alone(mov(0, 5), exit()), full()
	none.T = nil
	odd := env(
		api.Table{S: api.Schema{Kind: -1}, E: []api.Entry{{}, entry(3), entry(3, 1, 2, 3, 4, 5, 6)}, Next: 4},
		filled(api.Hash, 1, 1, 0, 1), api.Table{})
	with := program(fn(0, mov(0, 1), exit()), fn(2, withReg(compute(api.Add, 1, 0), 2), movReg(0, 1), exit()))
	l := []sample{
		{"OK", plain, 0, full(), 9, nil},
		{"OK, no maps", plain, 0, none, 9, nil},
		{"OK, odd maps", plain, 0, odd, 9, nil},
		{"OK, arguments", with, 1, full(), 9, []uint32{4, 5}},
		{"OK, calls", nested(), 0, full(), 99, nil},
		{"draw", alone(help(api.HelpDraw), exit()), 0, full(), 9, nil},
		{"draw, odd maps", alone(help(api.HelpDraw), exit()), 0, odd, 9, nil},
		{"ErrArg, program", api.Prog{}, 0, full(), 9, nil},
		{"ErrArg, code", alone(mov(0, 1), api.Inst{Op: -1}), 0, full(), 9, nil},
		{"ErrArg, fuel", plain, 0, full(), -1, nil},
		{"ErrArg, odd maps", plain, 0, odd, -1, nil},
		{"ErrNone, number", plain, 1, full(), 9, nil},
		{"ErrNone, arguments", with, 1, full(), 9, []uint32{4, 5, 6}},
		{"ErrNone, odd maps", plain, 1, odd, 9, nil},
		{"ErrLong, none", plain, 0, full(), 0, nil},
		{"ErrLong", plain, 0, full(), 1, nil},
		{"ErrLong, odd maps", plain, 0, odd, 1, nil},
		{"ErrFault", alone(exit()), 0, full(), 9, nil},
		{"ErrFault, odd maps", alone(mov(1, 0), mov(2, 0), help(api.HelpHas)), 0, odd, 9, nil},
	}
	for _, x := range good() {
		c := calling(x)
		l = append(l,
			sample{"helper", alone(append(c, exit())...), 0, full(), 50, nil},
			sample{"helper, ErrLong", alone(append(c, exit())...), 0, full(), len(c), nil},
			sample{"helper in a call", program(fn(0, call(1), exit()), fn(0, append(c, exit())...)), 0, full(), 50, nil},
			sample{"helper, ErrFault", alone(append(c, load(0, 16))...), 0, full(), 50, nil},
			sample{"helper, no helper", alone(append(c, help(9))...), 0, full(), 50, nil})
	}
	for _, x := range failing() {
		l = append(l, sample{"helper that fails", alone(append(calling(good()[5], x), exit())...), 0, full(), 50, nil})
	}
	return l
}

// spare returns e with room behind its list of tables, behind their lists of
// entries and behind each value, filled with what must not change either.
func spare(e api.Env) api.Env {
	f := e
	f.T = nil
	for _, t := range append(slices.Clone(e.T), filled(api.Hash, 2, 1, 61), filled(api.Lru, 2, 1, 62)) {
		u := t
		u.E = nil
		for _, x := range append(slices.Clone(t.E), entry(91, 92), entry(93, 94)) {
			v := append(slices.Clone(x.V), 95, 96)
			u.E = append(u.E, api.Entry{Key: x.Key, V: v[:len(x.V)]})
		}
		u.E = u.E[:len(t.E)]
		f.T = append(f.T, u)
	}
	f.T = f.T[:len(e.T)]
	return f
}

// whole lists all that e holds, also behind its lists.
func whole(e api.Env) []uint64 {
	l := []uint64{uint64(e.Seed), uint64(len(e.T))}
	for _, w := range e.Ctx {
		l = append(l, uint64(w))
	}
	for _, t := range e.T[:cap(e.T)] {
		l = append(l, uint64(t.S.Kind), uint64(t.S.Cap), uint64(t.S.Words), uint64(t.S.Ver), uint64(t.Next), uint64(len(t.E)))
		for _, x := range t.E[:cap(t.E)] {
			l = append(l, uint64(x.Key), uint64(len(x.V)))
			for _, w := range x.V[:cap(x.V)] {
				l = append(l, uint64(w))
			}
		}
	}
	return l
}

// spoil changes every part of the lists of e, and what is behind them.
func spoil(e api.Env) {
	for k := range e.T {
		t := &e.T[k]
		for j := range t.E {
			for i := range t.E[j].V {
				t.E[j].V[i] = 41
			}
			_ = append(t.E[j].V, 42, 43)
			t.E[j].Key = 44
		}
		_ = append(t.E, entry(45, 46), entry(47, 48))
		for j := range t.E {
			t.E[j].V = nil
		}
		t.S, t.Next = api.Schema{Kind: 49}, 50
	}
	_ = append(e.T, api.Table{Next: 51}, api.Table{Next: 52})
	for k := range e.T {
		e.T[k].E = nil
	}
}

// spareProg returns a copy of p with room behind its lists, filled with what
// must not change either.
func spareProg(p api.Prog) api.Prog {
	var q api.Prog
	for _, f := range append(slices.Clone(p.Fns), fn(3, mov(3, 3)), fn(4, mov(4, 4))) {
		c := append(slices.Clone(f.Code), mov(5, 5), mov(6, 6))
		q.Fns = append(q.Fns, api.Fn{Args: f.Args, Code: c[:len(f.Code)]})
	}
	q.Fns = q.Fns[:len(p.Fns)]
	return q
}

// wholeProg lists all that p holds, also behind its lists.
func wholeProg(p api.Prog) []api.Inst {
	l := code(api.Inst{Imm: uint32(len(p.Fns))})
	for _, f := range p.Fns[:cap(p.Fns)] {
		l = append(l, api.Inst{Src: f.Args, Imm: uint32(len(f.Code))})
		l = append(l, f.Code[:cap(f.Code)]...)
	}
	return l
}

// R3: no call changes the program, the environment or the words that it is
// given, also beyond the lengths of their lists.
func TestArgumentsAreNotModified(t *testing.T) {
	for _, s := range samples() {
		e, p, words := spare(s.e), spareProg(s.p), append(slices.Clone(s.a), 81, 82)
		ahead, code := whole(e), wholeProg(p)
		interp.Call(p, s.n, e, s.fuel, words[:len(s.a)]...)
		interp.Run(p, e, s.fuel)
		if got := whole(e); !slices.Equal(got, ahead) {
			t.Errorf("%s: the environment became %v; it was %v", s.name, got, ahead)
		}
		if got := wholeProg(p); !slices.Equal(got, code) {
			t.Errorf("%s: the program became %v; it was %v", s.name, got, code)
		}
		if !slices.Equal(words, append(slices.Clone(s.a), 81, 82)) {
			t.Errorf("%s: the words became %v", s.name, words)
		}
	}
}

// R3: later changes of a result do not reach the argument or another result,
// nor do those of the arguments reach a result; also where E is e.
func TestNothingIsShared(t *testing.T) {
	for _, s := range samples() {
		e, p, words := spare(s.e), spareProg(s.p), slices.Clone(s.a)
		ahead := whole(e)
		one := interp.Call(p, s.n, e, s.fuel, words...)
		two := interp.Call(p, s.n, e, s.fuel, words...)
		want := two
		want.E = deep(two.E)
		spoil(one.E)
		if got := whole(e); !slices.Equal(got, ahead) {
			t.Errorf("%s: a change of the result made %v of %v", s.name, got, ahead)
		}
		if !equalRan(two, want) {
			t.Errorf("%s: a change of a result changed another one: %s", s.name, tell(two, want))
		}
		spoil(e)
		for k := range words {
			words[k] = 71
		}
		for _, f := range p.Fns {
			clear(f.Code)
		}
		if !equalRan(two, want) {
			t.Errorf("%s: a change of the arguments changed a result: %s", s.name, tell(two, want))
		}
		checkOne(t, s.name, s.p, s.n, s.e, s.fuel, s.a, want)
	}
}

// R3: no two lists of one result share memory: a change of one, or of what is
// behind it, does not reach another one.
func TestListsAreApart(t *testing.T) {
	for _, s := range samples() {
		e := spare(s.e)
		if len(e.T) > 2 { // tables that share their entries
			e.T[2] = e.T[0]
		}
		got := interp.Call(s.p, s.n, e, s.fuel, s.a...).E
		for k := range got.T {
			for j := range got.T[k].E {
				want := deep(got)
				for i := range got.T[k].E[j].V {
					got.T[k].E[j].V[i]++
					want.T[k].E[j].V[i]++
				}
				_ = append(got.T[k].E[j].V, 77, 78, 79, 80)
				got.T[k].E[j].Key++
				want.T[k].E[j].Key++
				if !equal(got, want) {
					t.Fatalf("%s: a change of entry %d of map %d made %+v of %+v", s.name, j, k, got, want)
				}
			}
			want := deep(got)
			_ = append(got.T[k].E, entry(70, 71), entry(72, 73))
			if !equal(got, want) {
				t.Fatalf("%s: what is appended to map %d made %+v of %+v", s.name, k, got, want)
			}
		}
	}
}

// R5: results do not hang on what is behind a list within its capacity, nor on
// the calls ahead.
func TestResultsDependOnTheArgumentsOnly(t *testing.T) {
	for _, s := range samples() {
		got := interp.Call(spareProg(s.p), s.n, spare(s.e), s.fuel, s.a...)
		checkOne(t, s.name, s.p, s.n, s.e, s.fuel, s.a, got)
		checkOne(t, s.name, s.p, s.n, s.e, s.fuel, s.a, got)
	}
}
