package table_test

import (
	"slices"
	"testing"

	"drydock/api"
	"drydock/table"
)

func checkGet(t *testing.T, name string, of api.Table, key, field uint32, want api.Table, word uint32, ok bool) {
	t.Helper()
	got, v, found := table.Get(of, key, field)
	if !equal(got, want) || v != word || found != ok {
		t.Errorf("%s: Get(%+v, %d, %d) is %+v, %d, %v; want %+v, %d, %v", name, of, key, field, got, v, found, want, word, ok)
	}
}

func checkNoGet(t *testing.T, name string, of api.Table, key, field uint32) {
	t.Helper()
	checkGet(t, name, of, key, field, of, 0, false)
}

func checkSet(t *testing.T, name string, of api.Table, key, field, v uint32, want api.Table) {
	t.Helper()
	got, e := table.Set(of, key, field, v)
	if e != api.OK || !equal(got, want) {
		t.Errorf("%s: Set(%+v, %d, %d, %d) is %+v, %d; want %+v, 0", name, of, key, field, v, got, e, want)
	}
}

func checkNoSet(t *testing.T, name string, of api.Table, key, field uint32, want api.Errno) {
	t.Helper()
	got, e := table.Set(of, key, field, 5)
	if e != want || !isZero(got) {
		t.Errorf("%s: Set(%+v, %d, %d, 5) is %+v, %d; want the zero value, %d", name, of, key, field, got, e, want)
	}
}

func checkDel(t *testing.T, name string, of api.Table, key uint32, want api.Table, ok bool) {
	t.Helper()
	got, found := table.Del(of, key)
	if !equal(got, want) || found != ok {
		t.Errorf("%s: Del(%+v, %d) is %+v, %v; want %+v, %v", name, of, key, got, found, want, ok)
	}
}

// beyond are fields that no value of s has: the first one, and such as are
// small, or negative, in fewer bits.
func beyond(s api.Schema) []uint32 {
	return []uint32{uint32(s.Words), uint32(s.Words) + 1, 255, 256, 1 << 16, 1<<31 - 1, 1 << 31, 1<<31 + 1, top - 1, top}
}

// moved returns t with the entry at the given index as the last one.
func moved(t api.Table, at int) api.Table {
	u := deep(t)
	e := u.E[at]
	u.E = append(slices.Delete(u.E, at, at+1), e)
	return u
}

func without(t api.Table, at int) api.Table {
	u := deep(t)
	u.E = slices.Delete(u.E, at, at+1)
	return u
}

// absent returns keys that t does not have, next to its own and at the ends.
func absent(t api.Table) []uint32 {
	have := keys(t)
	var l []uint32
	for _, key := range append([]uint32{0, 1, 12345, 1 << 31, top}, have...) {
		for _, k := range []uint32{key - 1, key, key + 1, key ^ 1<<31} {
			if !slices.Contains(have, k) {
				l = append(l, k)
			}
		}
	}
	return l
}

// P5.2: Get of each key and each field, in tables of each Kind.
func TestGet(t *testing.T) {
	for _, s := range goodTables() {
		if s.t.S.Kind == api.Ring {
			continue
		}
		for at, e := range s.t.E {
			want := s.t
			if s.t.S.Kind == api.Lru {
				want = moved(s.t, at)
			}
			for field := range uint32(s.t.S.Words) {
				checkGet(t, s.name, s.t, e.Key, field, want, word(e.Key, field), true)
			}
		}
	}
}

// P5.2: there is no word of a key that is not there, nor of a field that is not
// less than Words; the order stays.
func TestGetOfNone(t *testing.T) {
	for _, s := range goodTables() {
		for _, e := range s.t.E {
			for _, field := range beyond(s.t.S) {
				checkNoGet(t, s.name, s.t, e.Key, field)
			}
		}
		for _, key := range absent(s.t) {
			for _, field := range append(beyond(s.t.S), 0, uint32(s.t.S.Words)-1) {
				checkNoGet(t, s.name, s.t, key, field)
			}
		}
	}
}

// P5.2, P5.3, P5.4: a Ring has no words by its keys, neither those that it has
// nor others.
func TestRingHasNoKeys(t *testing.T) {
	for _, s := range goodTables() {
		if s.t.S.Kind != api.Ring {
			continue
		}
		for _, key := range append(keys(s.t), 0, 1, s.t.Next, s.t.Next-1, top) {
			for _, field := range append(beyond(s.t.S), 0) {
				checkNoGet(t, s.name, s.t, key, field)
				checkNoSet(t, s.name, s.t, key, field, api.ErrArg)
			}
			checkDel(t, s.name, s.t, key, s.t, false)
		}
	}
}

// P5.2 to P5.4, P1: no word of a table that is not valid is read or written.
func TestInvalidTables(t *testing.T) {
	for _, s := range badTables() {
		have := keys(s.t)
		if len(have) > 20 {
			have = have[:20]
		}
		for _, key := range append(have, 0, 1, 77, s.t.Next, top) {
			for _, field := range []uint32{0, 1, 3, 4, 5, 1 << 31, top} {
				checkNoGet(t, s.name, s.t, key, field)
				checkNoSet(t, s.name, s.t, key, field, api.ErrArg)
			}
			checkDel(t, s.name, s.t, key, s.t, false)
		}
		if got, e := table.Push(s.t, 5); e != api.ErrArg || !isZero(got) {
			t.Errorf("%s: Push(%+v, 5) is %+v, %d", s.name, s.t, got, e)
		}
		if got, v, ok := table.Pop(s.t); ok || v != 0 || !equal(got, s.t) {
			t.Errorf("%s: Pop(%+v) is %+v, %d, %v", s.name, s.t, got, v, ok)
		}
	}
}

// P5.3: Set of each key and each field that is there changes this word alone,
// and the order of an Lru.
func TestSetOfAKeyThatIsThere(t *testing.T) {
	for _, s := range goodTables() {
		if s.t.S.Kind == api.Ring {
			continue
		}
		for at, e := range s.t.E {
			for field := range uint32(s.t.S.Words) {
				for _, v := range []uint32{0, 1, 1 << 31, top, word(e.Key, field)} {
					want := deep(s.t)
					want.E[at].V[field] = v
					if s.t.S.Kind == api.Lru {
						want = moved(want, at)
					}
					checkSet(t, s.name, s.t, e.Key, field, v, want)
				}
			}
		}
	}
}

// P5.3: Set of a key that is not there appends it, where a Hash or an Lru has
// room; a full Lru evicts its first entry; a full Hash and an Array refuse.
func TestSetOfAKeyThatIsNotThere(t *testing.T) {
	for _, s := range goodTables() {
		if s.t.S.Kind == api.Ring {
			continue
		}
		full := len(s.t.E) == s.t.S.Cap
		for _, key := range absent(s.t) {
			for field := range uint32(s.t.S.Words) {
				if s.t.S.Kind == api.Array {
					checkNoSet(t, s.name, s.t, key, field, api.ErrNone)
					continue
				}
				if s.t.S.Kind == api.Hash && full {
					checkNoSet(t, s.name, s.t, key, field, api.ErrFull)
					continue
				}
				want := deep(s.t)
				if full {
					want = without(s.t, 0)
				}
				v := make([]uint32, s.t.S.Words)
				v[field] = 1<<31 + 9
				want.E = append(want.E, api.Entry{Key: key, V: v})
				checkSet(t, s.name, s.t, key, field, 1<<31+9, want)
			}
		}
	}
}

// P5.3: an entry is appended with zeros, also where the word is 0.
func TestSetOfZero(t *testing.T) {
	for _, kind := range []int{api.Hash, api.Lru} {
		checkSet(t, "empty", filled(kind, 2, 3), 8, 1, 0, api.Table{
			S: api.Schema{Kind: kind, Cap: 2, Words: 3, Ver: 3},
			E: []api.Entry{entry(8, 0, 0, 0)},
		})
	}
}

// P5.3: a field that is not less than Words is an ErrArg, whatever else is
// wrong: a key that an Array does not have, or a full Hash.
func TestSetOfNoField(t *testing.T) {
	for _, s := range goodTables() {
		for _, field := range beyond(s.t.S) {
			for _, key := range append(keys(s.t), absent(s.t)...) {
				checkNoSet(t, s.name, s.t, key, field, api.ErrArg)
			}
		}
	}
}

// P5.3, R2: where several errors apply, the one that is named first.
func TestFirstErrorOfSet(t *testing.T) {
	array := filled(api.Array, 2, 1, 0, 1)
	hash := filled(api.Hash, 2, 1, 8, 9)
	checkNoSet(t, "no key of an Array that is full", array, 2, 0, api.ErrNone)
	checkNoSet(t, "no field, no key", array, 2, 1, api.ErrArg)
	checkNoSet(t, "no field, full", hash, 7, 1, api.ErrArg)
	checkNoSet(t, "not valid, no key", withNext(array, 1), 2, 0, api.ErrArg)
	checkNoSet(t, "not valid, full", withNext(hash, 1), 7, 0, api.ErrArg)
	checkNoSet(t, "not valid, no field, no key", withNext(array, 1), 2, 1, api.ErrArg)
	checkNoSet(t, "a full Ring", ring(2, 2, 2), 5, 0, api.ErrArg)
	checkNoSet(t, "more than full", filled(api.Hash, 2, 1, 7, 8, 9), 5, 0, api.ErrArg)
	checkNoSet(t, "an Array without its last key", filled(api.Array, 2, 1, 0), 1, 0, api.ErrArg)
}

// P5.3: a full Hash and a full Lru, with a key that each has and with one that
// it does not have, by hand.
func TestFullTables(t *testing.T) {
	hash := api.Schema{Kind: api.Hash, Cap: 2, Words: 2}
	h := api.Table{S: hash, E: []api.Entry{entry(7, 1, 2), entry(5, 3, 4)}}
	checkSet(t, "Hash, its first key", h, 7, 1, 9, api.Table{S: hash, E: []api.Entry{entry(7, 1, 9), entry(5, 3, 4)}})
	checkSet(t, "Hash, its last key", h, 5, 0, 9, api.Table{S: hash, E: []api.Entry{entry(7, 1, 2), entry(5, 9, 4)}})
	checkNoSet(t, "Hash, another key", h, 6, 0, api.ErrFull)

	lru := api.Schema{Kind: api.Lru, Cap: 2, Words: 2}
	l := api.Table{S: lru, E: []api.Entry{entry(7, 1, 2), entry(5, 3, 4)}}
	checkSet(t, "Lru, its first key", l, 7, 1, 9, api.Table{S: lru, E: []api.Entry{entry(5, 3, 4), entry(7, 1, 9)}})
	checkSet(t, "Lru, its last key", l, 5, 0, 9, api.Table{S: lru, E: []api.Entry{entry(7, 1, 2), entry(5, 9, 4)}})
	checkSet(t, "Lru, another key", l, 6, 0, 9, api.Table{S: lru, E: []api.Entry{entry(5, 3, 4), entry(6, 9, 0)}})

	one := api.Schema{Kind: api.Lru, Cap: 1, Words: 1}
	o := api.Table{S: one, E: []api.Entry{entry(7, 1)}}
	checkSet(t, "Lru of one key, another key", o, 6, 0, 9, api.Table{S: one, E: []api.Entry{entry(6, 9)}})
	checkSet(t, "Lru of one key, its key", o, 7, 0, 9, api.Table{S: one, E: []api.Entry{entry(7, 9)}})
}

// P5.2, P5.3: the document's example, and the order behind each call.
func TestOrderOfAnLru(t *testing.T) {
	l, _ := table.New(api.Schema{Kind: api.Lru, Cap: 2, Words: 1})
	check := func(what string, want ...uint32) {
		t.Helper()
		if got := keys(l); !slices.Equal(got, want) {
			t.Errorf("behind %s the keys are %v; want %v", what, got, want)
		}
	}
	set := func(key, v uint32) { l, _ = table.Set(l, key, 0, v) }
	set(1, 10)
	check("setting 1", 1)
	set(2, 20)
	check("setting 2", 1, 2)
	l, v, ok := table.Get(l, 1, 0)
	if v != 10 || !ok {
		t.Errorf("getting 1 is %d, %v", v, ok)
	}
	check("getting 1", 2, 1)
	set(3, 30)
	check("setting 3", 1, 3)
	l, _, _ = table.Get(l, 2, 0)
	check("getting 2, which is gone", 1, 3)
	l, _, _ = table.Get(l, 1, 1)
	check("getting a field of 1 that is not there", 1, 3)
	l, _, _ = table.Get(l, 3, 0)
	check("getting 3, the last one", 1, 3)
	set(1, 11)
	check("setting 1 again", 3, 1)
	l, _ = table.Del(l, 9)
	check("deleting 9", 3, 1)
	l, _ = table.Del(l, 3)
	check("deleting 3", 1)
}

// P5.2, P5.3: the orders of an Lru with the first, a middle and the last entry.
func TestOrderOfEachEntryOfAnLru(t *testing.T) {
	l := filled(api.Lru, 4, 1, 5, 6, 7, 8)
	cases := []struct {
		key  uint32
		want []uint32
	}{
		{5, []uint32{6, 7, 8, 5}}, {6, []uint32{5, 7, 8, 6}}, {7, []uint32{5, 6, 8, 7}},
		{8, []uint32{5, 6, 7, 8}}, {9, []uint32{6, 7, 8, 9}},
	}
	for _, c := range cases {
		got, _ := table.Set(l, c.key, 0, 1)
		if !slices.Equal(keys(got), c.want) {
			t.Errorf("behind setting %d the keys are %v; want %v", c.key, keys(got), c.want)
		}
		if c.key == 9 {
			continue
		}
		if got, _, _ = table.Get(l, c.key, 0); !slices.Equal(keys(got), c.want) {
			t.Errorf("behind getting %d the keys are %v; want %v", c.key, keys(got), c.want)
		}
	}
}

// P5.2, P5.3: in a Hash and an Array the order stays.
func TestOrderOfOthers(t *testing.T) {
	for _, u := range []api.Table{filled(api.Hash, 4, 1, 7, 5, 6), filled(api.Array, 3, 1, 0, 1, 2)} {
		for _, key := range keys(u) {
			if got, _, _ := table.Get(u, key, 0); !slices.Equal(keys(got), keys(u)) {
				t.Errorf("behind getting %d the keys are %v; want %v", key, keys(got), keys(u))
			}
			if got, _ := table.Set(u, key, 0, 1); !slices.Equal(keys(got), keys(u)) {
				t.Errorf("behind setting %d the keys are %v; want %v", key, keys(got), keys(u))
			}
		}
	}
}

// P5.4: Del of each entry of each table removes it, or fills it with zeros in
// an Array; the others stay in their order.
func TestDel(t *testing.T) {
	for _, s := range goodTables() {
		if s.t.S.Kind == api.Ring {
			continue
		}
		for at, e := range s.t.E {
			want := without(s.t, at)
			if s.t.S.Kind == api.Array {
				want = withValue(s.t, at, make([]uint32, s.t.S.Words)...)
			}
			checkDel(t, s.name, s.t, e.Key, want, true)
		}
		for _, key := range absent(s.t) {
			checkDel(t, s.name, s.t, key, s.t, false)
		}
	}
}

// P5.4: Del of the first, the middle and the last entry of each Kind, by hand.
func TestDelByHand(t *testing.T) {
	for _, kind := range []int{api.Hash, api.Lru} {
		s := api.Schema{Kind: kind, Cap: 3, Words: 2}
		a, b, c := entry(7, 1, 2), entry(5, 3, 4), entry(6, 5, 6)
		u := api.Table{S: s, E: []api.Entry{a, b, c}}
		checkDel(t, "the first", u, 7, api.Table{S: s, E: []api.Entry{b, c}}, true)
		checkDel(t, "the middle", u, 5, api.Table{S: s, E: []api.Entry{a, c}}, true)
		checkDel(t, "the last", u, 6, api.Table{S: s, E: []api.Entry{a, b}}, true)
		checkDel(t, "none", u, 8, u, false)
		checkDel(t, "the only one", api.Table{S: s, E: []api.Entry{a}}, 7, api.Table{S: s}, true)
		checkDel(t, "of an empty one", api.Table{S: s}, 0, api.Table{S: s}, false)
	}
	s := api.Schema{Kind: api.Array, Cap: 3, Words: 2}
	a, b, c := entry(0, 1, 2), entry(1, 3, 4), entry(2, 5, 6)
	u := api.Table{S: s, E: []api.Entry{a, b, c}}
	checkDel(t, "the first of an Array", u, 0, api.Table{S: s, E: []api.Entry{entry(0, 0, 0), b, c}}, true)
	checkDel(t, "the middle of an Array", u, 1, api.Table{S: s, E: []api.Entry{a, entry(1, 0, 0), c}}, true)
	checkDel(t, "the last of an Array", u, 2, api.Table{S: s, E: []api.Entry{a, b, entry(2, 0, 0)}}, true)
	checkDel(t, "beyond an Array", u, 3, u, false)
	checkDel(t, "far beyond an Array", u, top, u, false)
	zero, _ := table.New(s)
	checkDel(t, "of zeros", zero, 1, zero, true)
}

// P5.4: a Hash that was full has room for another key behind Del.
func TestSetBehindDel(t *testing.T) {
	h, ok := table.Del(filled(api.Hash, 2, 1, 7, 5), 7)
	if !ok {
		t.Fatalf("Del is %+v, false", h)
	}
	want := filled(api.Hash, 2, 1, 5)
	want.E = append(want.E, entry(7, 9))
	checkSet(t, "the same key again", h, 7, 0, 9, want)
}
