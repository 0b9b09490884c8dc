package table_test

import (
	"fmt"
	"slices"
	"testing"

	"drydock/api"
	"drydock/table"
)

// spare returns t with room behind its list of entries and behind each value,
// filled with what must not change either.
func spare(t api.Table) api.Table {
	u := t
	u.E = nil
	for _, e := range append(slices.Clone(t.E), entry(91, 92), entry(93, 94)) {
		v := append(slices.Clone(e.V), 95, 96)
		u.E = append(u.E, api.Entry{Key: e.Key, V: v[:len(e.V)]})
	}
	u.E = u.E[:len(t.E)]
	return u
}

// whole lists all that the entries of t hold, also behind their lists.
func whole(t api.Table) []uint32 {
	l := []uint32{uint32(len(t.E))}
	for _, e := range t.E[:cap(t.E)] {
		l = append(l, e.Key, uint32(len(e.V)))
		l = append(l, e.V[:cap(e.V)]...)
	}
	return l
}

// spoil changes every part of the lists of t, and what is behind them.
func spoil(t api.Table) {
	for k := range t.E {
		for j := range t.E[k].V {
			t.E[k].V[j] = 41
		}
		_ = append(t.E[k].V, 42, 43)
		t.E[k].Key = 44
	}
	_ = append(t.E, entry(45, 46), entry(47, 48))
	for k := range t.E {
		t.E[k].V = nil
	}
}

// call is a call of the package, and the table that it returns.
type call struct {
	name string
	do   func(api.Table) api.Table
}

// calls are calls with each function that takes a table, with keys that t has
// and that it does not have.
func calls(t api.Table) []call {
	l := []call{
		{"May", func(u api.Table) api.Table { table.May(u); return api.Table{} }},
		{"Same", func(u api.Table) api.Table { table.Same(u, deep(u)); table.Same(deep(u), u); return api.Table{} }},
		{"Push", func(u api.Table) api.Table { u, _ = table.Push(u, 5); return u }},
		{"Pop", func(u api.Table) api.Table { u, _, _ = table.Pop(u); return u }},
	}
	have := keys(t)
	if len(have) > 20 {
		have = have[:20]
	}
	for _, key := range append(have, 12345) {
		l = append(l, call{fmt.Sprint("Del ", key), func(u api.Table) api.Table { u, _ = table.Del(u, key); return u }})
		for _, field := range []uint32{0, 1, 3, 4, top} {
			l = append(l,
				call{fmt.Sprint("Get ", key, field), func(u api.Table) api.Table { u, _, _ = table.Get(u, key, field); return u }},
				call{fmt.Sprint("Set ", key, field), func(u api.Table) api.Table { u, _ = table.Set(u, key, field, 5); return u }},
			)
		}
	}
	return l
}

// R3: no call changes a table that it is given, also beyond the lengths of its
// lists, whether it returns the table itself, another one or an error.
func TestArgumentsAreNotModified(t *testing.T) {
	for _, s := range append(goodTables(), badTables()...) {
		given := spare(s.t)
		want := whole(given)
		for _, c := range calls(s.t) {
			c.do(given)
			if got := whole(given); !slices.Equal(got, want) {
				t.Fatalf("%s: %s made %v of %v", s.name, c.name, got, want)
			}
		}
	}
}

// R3: later changes of a result do not reach the argument or another result,
// nor do those of the argument reach a result; also where Get, Del and Pop
// return the table itself.
func TestNothingIsShared(t *testing.T) {
	for _, s := range append(goodTables(), badTables()...) {
		for _, c := range calls(s.t) {
			given := spare(s.t)
			ahead := whole(given)
			one, two := c.do(given), c.do(given)
			want := deep(two)
			spoil(one)
			if got := whole(given); !slices.Equal(got, ahead) {
				t.Fatalf("%s: a change of the result of %s made %v of %v", s.name, c.name, got, ahead)
			}
			if !equal(two, want) {
				t.Fatalf("%s: a change of a result of %s made %+v of %+v", s.name, c.name, two, want)
			}
			spoil(given)
			if !equal(two, want) {
				t.Fatalf("%s: a change of the argument of %s made %+v of %+v", s.name, c.name, two, want)
			}
		}
	}
}

// R3: neither do later changes of a new table reach another one.
func TestNewTablesShareNothing(t *testing.T) {
	for kind := range api.Maps {
		s := api.Schema{Kind: kind, Cap: 3, Words: 1}
		one, _ := table.New(s)
		two, _ := table.New(s)
		want := deep(two)
		spoil(one)
		if again, _ := table.New(s); !equal(two, want) || !equal(again, want) {
			t.Errorf("Kind %d: a change of a new table made %+v of %+v", kind, two, want)
		}
	}
}

// checkApart checks that no change of a value of u, nor of what is behind it,
// reaches another value of u.
func checkApart(t *testing.T, name string, u api.Table) {
	t.Helper()
	for at := range u.E {
		want := deep(u)
		for j := range u.E[at].V {
			u.E[at].V[j]++
			want.E[at].V[j]++
		}
		_ = append(u.E[at].V, 77, 78, 79, 80)
		if !equal(u, want) {
			t.Fatalf("%s: a change of entry %d made %+v of %+v", name, at, u, want)
		}
	}
}

// R3: no two values of one result share memory.
func TestValuesAreApart(t *testing.T) {
	for _, s := range append(goodTables(), badTables()...) {
		if u, e := table.New(s.t.S); e == api.OK {
			checkApart(t, "New", u)
		}
		for _, c := range calls(s.t) {
			checkApart(t, s.name+": "+c.name, c.do(spare(s.t)))
		}
	}
}

// R3: entries of an argument that share one value are told apart: a result has
// a value for each of them.
func TestSharedValuesOfAnArgument(t *testing.T) {
	for _, kind := range []int{api.Hash, api.Lru} {
		v := []uint32{6, 7}
		u := api.Table{S: api.Schema{Kind: kind, Cap: 3, Words: 2}, E: []api.Entry{{Key: 1, V: v}, {Key: 2, V: v}, {Key: 3, V: v}}}
		want := api.Table{S: u.S, E: []api.Entry{entry(1, 6, 7), entry(2, 6, 7), entry(3, 6, 9)}}
		checkSet(t, "one value for all", u, 3, 1, 9, want)
	}
	v := []uint32{6}
	u := api.Table{S: api.Schema{Cap: 2, Words: 1}, E: []api.Entry{{Key: 0, V: v}, {Key: 1, V: v}}}
	checkDel(t, "one value for all", u, 0, api.Table{S: u.S, E: []api.Entry{entry(0, 0), entry(1, 6)}}, true)
	got, _, _ := table.Get(u, 0, 0)
	checkApart(t, "Get", got)
}

// R5: results do not hang on what is behind a list within its capacity, nor on
// the calls ahead.
func TestResultsDependOnTheArgumentsOnly(t *testing.T) {
	for _, s := range append(goodTables(), badTables()...) {
		if table.May(spare(s.t)) != table.May(deep(s.t)) {
			t.Errorf("%s: May hangs on capacities", s.name)
		}
		if !table.Same(spare(s.t), deep(s.t)) {
			t.Errorf("%s: Same hangs on capacities", s.name)
		}
		for _, c := range calls(s.t) {
			first, again := c.do(spare(s.t)), c.do(deep(s.t))
			if !equal(first, again) {
				t.Errorf("%s: %s is %+v, then %+v", s.name, c.name, first, again)
			}
		}
	}
}
