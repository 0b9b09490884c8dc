package helper_test

import (
	"slices"
	"testing"

	"drydock/api"
	"drydock/helper"
)

// sample is a call.
type sample struct {
	name string
	n    int
	e    api.Env
	a    []uint32
}

// samples are calls of each helper that are done with and without a change of
// a table, and such that return e itself beside ErrFault, or ErrArg.
func samples() []sample {
	l := []sample{
		{"get, Array", api.HelpGet, full(), []uint32{atArray, 1, 1}},
		{"get, Hash", api.HelpGet, full(), []uint32{atHash, 5, 1}},
		{"get, Lru", api.HelpGet, full(), []uint32{atLru, 8, 1}},
		{"get, no key", api.HelpGet, full(), []uint32{atLru, 7, 1}},
		{"get, no field", api.HelpGet, full(), []uint32{atLru, 8, 2}},
		{"set, Array", api.HelpSet, full(), []uint32{atArray, 1, 1, 5}},
		{"set, Hash", api.HelpSet, full(), []uint32{atHash, 5, 1, 5}},
		{"set, Hash, new key", api.HelpSet, full(), []uint32{atHash, 6, 1, 5}},
		{"set, Lru", api.HelpSet, full(), []uint32{atLru, 8, 1, 5}},
		{"set, ErrNone", api.HelpSet, full(), []uint32{atArray, 3, 1, 5}},
		{"set, ErrFull", api.HelpSet, env(filled(api.Hash, 1, 2, 4)), []uint32{0, 3, 1, 5}},
		{"set, no field", api.HelpSet, full(), []uint32{atHash, 5, 3, 5}},
		{"del, Array", api.HelpDel, full(), []uint32{atArray, 1}},
		{"del, Hash", api.HelpDel, full(), []uint32{atHash, 5}},
		{"del, no key", api.HelpDel, full(), []uint32{atHash, 6}},
		{"has", api.HelpHas, full(), []uint32{atLru, 8}},
		{"has not", api.HelpHas, full(), []uint32{atLru, 7}},
		{"draw", api.HelpDraw, full(), nil},
		{"draw, no maps", api.HelpDraw, env(), nil},
		{"push", api.HelpPush, full(), []uint32{atRing, 5}},
		{"push, ErrFull", api.HelpPush, env(ring(1, 1, 0)), []uint32{0, 5}},
		{"no helper", api.Helps, full(), []uint32{0, 1}},
		{"too few", api.HelpDel, full(), []uint32{0}},
	}
	for _, n := range withMap() {
		l = append(l, sample{"no map", n, full(), onMap(n, 5)}, sample{"no maps", n, env(), onMap(n, top)})
		for at, u := range full().T {
			if !fitting[n][u.S.Kind] {
				l = append(l, sample{"does not fit", n, full(), onMap(n, uint32(at))})
			}
		}
		for kind := range api.Maps {
			for at, bad := range badTables(kind) {
				l = append(l,
					sample{"not valid", n, env(badTables(kind)...), onMap(n, uint32(at))},
					sample{"beside one that is not valid", n, env(full().T[atLru], full().T[atRing], bad), onMap(n, 0)})
			}
		}
	}
	return append(l, sample{"draw, not valid", api.HelpDraw, env(badTables(api.Hash)...), nil})
}

// spare returns e with room behind its list of tables, behind their lists of
// entries and behind each value, filled with what must not change either.
func spare(e api.Env) api.Env {
	f := e
	f.T = nil
	for _, t := range append(slices.Clone(e.T), filled(api.Hash, 2, 1, 61), filled(api.Lru, 2, 1, 62)) {
		u := t
		u.E = nil
		for _, x := range append(slices.Clone(t.E), entry(91, 92), entry(93, 94)) {
			v := append(slices.Clone(x.V), 95, 96)
			u.E = append(u.E, api.Entry{Key: x.Key, V: v[:len(x.V)]})
		}
		u.E = u.E[:len(t.E)]
		f.T = append(f.T, u)
	}
	f.T = f.T[:len(e.T)]
	return f
}

// whole lists all that e holds, also behind its lists.
func whole(e api.Env) []uint64 {
	l := []uint64{uint64(e.Seed), uint64(len(e.T))}
	for _, w := range e.Ctx {
		l = append(l, uint64(w))
	}
	for _, t := range e.T[:cap(e.T)] {
		l = append(l, uint64(t.S.Kind), uint64(t.S.Cap), uint64(t.S.Words), uint64(t.S.Ver), uint64(t.Next), uint64(len(t.E)))
		for _, x := range t.E[:cap(t.E)] {
			l = append(l, uint64(x.Key), uint64(len(x.V)))
			for _, w := range x.V[:cap(x.V)] {
				l = append(l, uint64(w))
			}
		}
	}
	return l
}

// spoil changes every part of the lists of e, and what is behind them.
func spoil(e api.Env) {
	for k := range e.T {
		t := &e.T[k]
		for j := range t.E {
			for i := range t.E[j].V {
				t.E[j].V[i] = 41
			}
			_ = append(t.E[j].V, 42, 43)
			t.E[j].Key = 44
		}
		_ = append(t.E, entry(45, 46), entry(47, 48))
		for j := range t.E {
			t.E[j].V = nil
		}
		t.S, t.Next = api.Schema{Kind: 49}, 50
	}
	_ = append(e.T, api.Table{Next: 51}, api.Table{Next: 52})
	for k := range e.T {
		e.T[k].E = nil
	}
}

// R3: no call changes the environment or the words that it is given, also
// beyond the lengths of their lists.
func TestArgumentsAreNotModified(t *testing.T) {
	for _, s := range samples() {
		given := spare(s.e)
		ahead := whole(given)
		words := append(slices.Clone(s.a), 81, 82)
		helper.Call(s.n, given, words[:len(s.a)]...)
		if got := whole(given); !slices.Equal(got, ahead) {
			t.Errorf("%s: Call(%d, .., %v) made %v of %v", s.name, s.n, s.a, got, ahead)
		}
		if !slices.Equal(words, append(slices.Clone(s.a), 81, 82)) {
			t.Errorf("%s: Call(%d, .., %v) made %v of its arguments", s.name, s.n, s.a, words)
		}
	}
}

// R3: later changes of a result do not reach the argument or another result,
// nor do those of the argument reach a result; also where Call returns e
// itself.
func TestNothingIsShared(t *testing.T) {
	for _, s := range samples() {
		given, words := spare(s.e), slices.Clone(s.a)
		ahead := whole(given)
		one, _, _ := helper.Call(s.n, given, words...)
		two, v, err := helper.Call(s.n, given, words...)
		want := deep(two)
		spoil(one)
		if got := whole(given); !slices.Equal(got, ahead) {
			t.Errorf("%s: a change of the result of Call(%d, .., %v) made %v of %v", s.name, s.n, s.a, got, ahead)
		}
		if !equal(two, want) {
			t.Errorf("%s: a change of a result of Call(%d, .., %v) made %+v of %+v", s.name, s.n, s.a, two, want)
		}
		spoil(given)
		for k := range words {
			words[k] = 71
		}
		if !equal(two, want) {
			t.Errorf("%s: a change of the argument of Call(%d, .., %v) made %+v of %+v", s.name, s.n, s.a, two, want)
		}
		check(t, s.name, s.n, s.e, s.a, want, v, err)
	}
}

// R3: no two lists of one result share memory: a change of one, or of what is
// behind it, does not reach another one.
func TestListsAreApart(t *testing.T) {
	for _, s := range samples() {
		got, _, _ := helper.Call(s.n, spare(s.e), s.a...)
		for k := range got.T {
			for j := range got.T[k].E {
				want := deep(got)
				for i := range got.T[k].E[j].V {
					got.T[k].E[j].V[i]++
					want.T[k].E[j].V[i]++
				}
				_ = append(got.T[k].E[j].V, 77, 78, 79, 80)
				got.T[k].E[j].Key++
				want.T[k].E[j].Key++
				if !equal(got, want) {
					t.Fatalf("%s: a change of entry %d of map %d made %+v of %+v", s.name, j, k, got, want)
				}
			}
			want := deep(got)
			_ = append(got.T[k].E, entry(70, 71), entry(72, 73))
			if !equal(got, want) {
				t.Fatalf("%s: what is appended to map %d made %+v of %+v", s.name, k, got, want)
			}
		}
	}
}

// R3, P6.3: maps that share their entries are told apart: just the one that is
// named changes, and a result has entries for each of them.
func TestSharedTablesOfAnArgument(t *testing.T) {
	h, r := filled(api.Lru, 3, 1, 4, 5), ring(3, 2, 0, 1)
	e := env(h, h, r, r)
	for _, c := range []struct {
		n    int
		a    []uint32
		want api.Table
	}{
		{api.HelpGet, []uint32{0, 4, 0}, filled(api.Lru, 3, 1, 5, 4)},
		{api.HelpSet, []uint32{1, 6, 0, word(6, 0)}, filled(api.Lru, 3, 1, 4, 5, 6)},
		{api.HelpSet, []uint32{1, 4, 0, word(4, 0)}, filled(api.Lru, 3, 1, 5, 4)},
		{api.HelpDel, []uint32{0, 4}, filled(api.Lru, 3, 1, 5)},
		{api.HelpPush, []uint32{2, word(2, 0)}, ring(3, 3, 0, 1, 2)},
	} {
		got, _, _ := helper.Call(c.n, e, c.a...)
		want := with(e, int(c.a[0]), c.want)
		if !equal(got, want) {
			t.Errorf("Call(%d, .., %v) is %+v; want %+v", c.n, c.a, got, want)
		}
		got.T[0].E[0].V[0], got.T[2].E[0].V[0] = 71, 72
		want.T[0].E[0].V[0], want.T[2].E[0].V[0] = 71, 72
		if !equal(got, want) {
			t.Errorf("a change of a result of Call(%d, .., %v) made %+v; want %+v", c.n, c.a, got, want)
		}
	}
}

// R5: results do not hang on what is behind a list within its capacity, nor on
// the calls ahead.
func TestResultsDependOnTheArgumentsOnly(t *testing.T) {
	for _, s := range samples() {
		one, v, err := helper.Call(s.n, spare(s.e), s.a...)
		check(t, s.name, s.n, s.e, s.a, one, v, err)
		check(t, s.name, s.n, s.e, s.a, one, v, err)
	}
}
