package table_test

import (
	"slices"
	"testing"

	"drydock/api"
	"drydock/table"
)

// draw mixes a number, so that calls follow each other without a plain order.
func draw(n uint32) uint32 {
	n = (n ^ n>>16) * 0x7feb352d
	n = (n ^ n>>15) * 0x846ca68b
	return n ^ n>>16
}

// valid is the chapter's definition, sentence by sentence, for a schema that is
// valid.
func valid(t api.Table) bool {
	if len(t.E) > t.S.Cap {
		return false
	}
	have := map[uint32]int{}
	for _, e := range t.E {
		have[e.Key]++
		if have[e.Key] > 1 || len(e.V) != t.S.Words {
			return false
		}
	}
	if t.S.Kind != api.Ring && t.Next != 0 {
		return false
	}
	switch t.S.Kind {
	case api.Array:
		if len(have) != t.S.Cap {
			return false
		}
		for k := 1; k < len(t.E); k++ {
			if t.E[k-1].Key >= t.E[k].Key {
				return false
			}
		}
		return t.E[0].Key == 0 && t.E[len(t.E)-1].Key == uint32(t.S.Cap)-1
	case api.Ring:
		for k := 1; k < len(t.E); k++ {
			if (uint64(t.E[k-1].Key)+1)%(1<<32) != uint64(t.E[k].Key) {
				return false
			}
		}
		if n := len(t.E); n > 0 {
			return (uint64(t.E[n-1].Key)+1)%(1<<32) == uint64(t.Next)
		}
	}
	return true
}

// eachTable calls f with every table of few keys, in every order, with every
// Next of some, valid or not.
func eachTable(f func(api.Table)) {
	some := []uint32{0, 1, 2, 3, top - 1, top}
	lists := [][]uint32{{}}
	for at := 0; at < len(lists); at++ {
		if len(lists[at]) == 4 {
			continue
		}
		for _, key := range some {
			lists = append(lists, append(slices.Clone(lists[at]), key))
		}
	}
	for kind := range api.Maps {
		for size := 1; size <= 3; size++ {
			for words := 1; words <= 2 && (kind != api.Ring || words == 1); words++ {
				for _, l := range lists {
					t := filled(kind, size, words, l...)
					for _, next := range append(some, 4) {
						f(withNext(t, next))
					}
				}
			}
		}
	}
}

// P5.1: May agrees with the definition on all tables of few keys; some tables
// of each Kind are valid, and some are not.
func TestMayAgainstTheDefinition(t *testing.T) {
	var found [api.Maps][2]int
	eachTable(func(u api.Table) {
		want := valid(u)
		if table.May(u) != want {
			t.Errorf("May(%+v) is %v", u, !want)
		}
		if want {
			found[u.S.Kind][1]++
		} else {
			found[u.S.Kind][0]++
		}
	})
	for kind, n := range found {
		if n[0] == 0 || n[1] == 0 {
			t.Errorf("of Kind %d there are %d tables that are valid and %d that are not", kind, n[1], n[0])
		}
	}
}

// model is a map by the promises alone: what is held by key, and the order in
// which keys were met or appended.
type model struct {
	s     api.Schema
	words map[uint32][api.MaxWords]uint32
	order []uint32
}

func modelOf(t api.Table) *model {
	m := &model{s: t.S, words: map[uint32][api.MaxWords]uint32{}, order: keys(t)}
	for _, e := range t.E {
		var w [api.MaxWords]uint32
		copy(w[:], e.V)
		m.words[e.Key] = w
	}
	return m
}

func (m *model) table() api.Table {
	t := api.Table{S: m.s}
	for _, key := range m.order {
		w := m.words[key]
		t.E = append(t.E, api.Entry{Key: key, V: slices.Clone(w[:m.s.Words])})
	}
	return t
}

func (m *model) has(key uint32) bool { return slices.Contains(m.order, key) }

func (m *model) drop(key uint32) {
	m.order = slices.DeleteFunc(m.order, func(k uint32) bool { return k == key })
}

func (m *model) meet(key uint32) {
	if m.s.Kind == api.Lru {
		m.drop(key)
		m.order = append(m.order, key)
	}
}

func (m *model) get(key, field uint32) (uint32, bool) {
	if uint64(field) >= uint64(m.s.Words) || !m.has(key) {
		return 0, false
	}
	m.meet(key)
	return m.words[key][field], true
}

func (m *model) set(key, field, v uint32) api.Errno {
	has, full := m.has(key), len(m.order) >= m.s.Cap
	if uint64(field) >= uint64(m.s.Words) {
		return api.ErrArg
	}
	if m.s.Kind == api.Array && !has {
		return api.ErrNone
	}
	if m.s.Kind == api.Hash && !has && full {
		return api.ErrFull
	}
	if !has {
		if full {
			m.drop(m.order[0])
		}
		m.order = append(m.order, key)
		m.words[key] = [api.MaxWords]uint32{}
	}
	w := m.words[key]
	w[field] = v
	m.words[key] = w
	m.meet(key)
	return api.OK
}

func (m *model) del(key uint32) bool {
	if !m.has(key) {
		return false
	}
	if m.s.Kind == api.Array {
		m.words[key] = [api.MaxWords]uint32{}
	} else {
		m.drop(key)
	}
	return true
}

// P5.2 to P5.4: on all valid tables of few keys that are no Rings, with keys
// that are there and that are not and with fields in and beyond Words, each
// call does what the promises say.
func TestWordsAgainstTheModel(t *testing.T) {
	some := []uint32{0, 1, 2, 3, 4, 1 << 31, top - 1, top}
	fields := []uint32{0, 1, 2, 1 << 31, top}
	eachTable(func(u api.Table) {
		if u.S.Kind == api.Ring || !valid(u) {
			return
		}
		for _, key := range some {
			for _, field := range fields {
				m := modelOf(u)
				v, ok := m.get(key, field)
				checkGet(t, "model", u, key, field, m.table(), v, ok)
				m = modelOf(u)
				if e := m.set(key, field, 55); e != api.OK {
					checkNoSet(t, "model", u, key, field, e)
				} else {
					checkSet(t, "model", u, key, field, 55, m.table())
				}
			}
			m := modelOf(u)
			ok := m.del(key)
			checkDel(t, "model", u, key, m.table(), ok)
		}
	})
}

// P5.2 to P5.4, R4: on all tables of few keys that are not valid, each call
// refuses, and returns the table or the zero value.
func TestRefusalsOfInvalidTables(t *testing.T) {
	eachTable(func(u api.Table) {
		if valid(u) {
			return
		}
		for _, key := range []uint32{0, top} {
			checkNoGet(t, "all", u, key, 0)
			checkNoSet(t, "all", u, key, 0, api.ErrArg)
			checkDel(t, "all", u, key, u, false)
		}
		checkNoPush(t, "all", u, api.ErrArg)
		checkPop(t, "all", u, u, 0, false)
	})
}

// run makes a sequence of calls of a table and of its model, and holds the one
// against the other behind each of them.
func run(t *testing.T, s api.Schema, start uint32) {
	u, e := table.New(s)
	if e != api.OK {
		t.Fatalf("New(%+v) is %d", s, e)
	}
	m := modelOf(u)
	for step := range uint32(400) {
		n := draw(start + step)
		key := (n >> 8) % uint32(s.Cap+2)
		field, v := (n>>16)%uint32(s.Words), draw(n)
		switch n % 4 {
		case 0:
			got, w, ok := table.Get(u, key, field)
			if want, has := m.get(key, field); w != want || ok != has {
				t.Fatalf("Get(%+v, %d, %d) is %d, %v; want %d, %v", u, key, field, w, ok, want, has)
			}
			u = got
		case 1:
			got, ok := table.Del(u, key)
			if has := m.del(key); ok != has {
				t.Fatalf("Del(%+v, %d) is %v", u, key, ok)
			}
			u = got
		default:
			got, e := table.Set(u, key, field, v)
			if want := m.set(key, field, v); e != want {
				t.Fatalf("Set(%+v, %d, %d) is %d; want %d", u, key, field, e, want)
			}
			if e != api.OK {
				break
			}
			u = got
			if _, w, ok := table.Get(u, key, field); w != v || !ok {
				t.Fatalf("Get(%+v, %d, %d) is %d, %v behind Set of %d", u, key, field, w, ok, v)
			}
		}
		if !table.May(u) || len(u.E) > s.Cap || !equal(u, m.table()) {
			t.Fatalf("the table is %+v; want %+v", u, m.table())
		}
	}
}

// P5.5: through many calls Get returns what Set stored, everything else is
// unchanged, and there are never more than Cap entries.
func TestManyCalls(t *testing.T) {
	start := uint32(0)
	for _, kind := range []int{api.Array, api.Hash, api.Lru} {
		for _, size := range []int{1, 2, 3, 5, 16} {
			for _, words := range []int{1, 2, 4} {
				for range 5 {
					run(t, api.Schema{Kind: kind, Cap: size, Words: words, Ver: 1}, start)
					start += 400
				}
			}
		}
	}
}

// P5.5: Set changes nothing but its word: each other word of each key reads as
// ahead of it.
func TestSetLeavesOtherWords(t *testing.T) {
	for _, s := range goodTables() {
		if s.t.S.Kind == api.Ring {
			continue
		}
		for _, key := range keys(s.t) {
			for field := range uint32(s.t.S.Words) {
				u, _ := table.Set(s.t, key, field, 3)
				for _, k := range keys(s.t) {
					for f := range uint32(s.t.S.Words) {
						want := word(k, f)
						if k == key && f == field {
							want = 3
						}
						if _, v, ok := table.Get(u, k, f); v != want || !ok {
							t.Errorf("%s: behind Set(%d, %d) Get(%d, %d) is %d, %v; want %d", s.name, key, field, k, f, v, ok, want)
						}
					}
				}
			}
		}
	}
}
