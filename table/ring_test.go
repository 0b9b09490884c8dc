package table_test

import (
	"testing"

	"drydock/api"
	"drydock/table"
)

func checkPush(t *testing.T, name string, of api.Table, v uint32, want api.Table) {
	t.Helper()
	got, e := table.Push(of, v)
	if e != api.OK || !equal(got, want) {
		t.Errorf("%s: Push(%+v, %d) is %+v, %d; want %+v, 0", name, of, v, got, e, want)
	}
}

func checkNoPush(t *testing.T, name string, of api.Table, want api.Errno) {
	t.Helper()
	if got, e := table.Push(of, 5); e != want || !isZero(got) {
		t.Errorf("%s: Push(%+v, 5) is %+v, %d; want the zero value, %d", name, of, got, e, want)
	}
}

func checkPop(t *testing.T, name string, of, want api.Table, word uint32, ok bool) {
	t.Helper()
	got, v, found := table.Pop(of)
	if !equal(got, want) || v != word || found != ok {
		t.Errorf("%s: Pop(%+v) is %+v, %d, %v; want %+v, %d, %v", name, of, got, v, found, want, word, ok)
	}
}

// P5.4: Push appends to a Ring that has room; a full one is an ErrFull, and a
// table that is no Ring an ErrArg.
func TestPush(t *testing.T) {
	for _, s := range goodTables() {
		switch {
		case s.t.S.Kind != api.Ring:
			checkNoPush(t, s.name, s.t, api.ErrArg)
		case len(s.t.E) == s.t.S.Cap:
			checkNoPush(t, s.name, s.t, api.ErrFull)
		default:
			for _, v := range []uint32{0, 1, 1 << 31, top} {
				want := deep(s.t)
				want.E = append(want.E, entry(s.t.Next, v))
				want.Next = s.t.Next + 1
				checkPush(t, s.name, s.t, v, want)
			}
		}
	}
}

// P5.4: Pop takes the first entry of a Ring, and nothing of an empty one nor of
// a table that is no Ring.
func TestPop(t *testing.T) {
	for _, s := range goodTables() {
		if s.t.S.Kind != api.Ring || len(s.t.E) == 0 {
			checkPop(t, s.name, s.t, s.t, 0, false)
			continue
		}
		checkPop(t, s.name, s.t, without(s.t, 0), word(s.t.E[0].Key, 0), true)
	}
}

// P5.4, R2: a full table that is no Ring, and a full Ring that is not valid.
func TestFirstErrorOfPush(t *testing.T) {
	checkNoPush(t, "a full Array", filled(api.Array, 1, 1, 0), api.ErrArg)
	checkNoPush(t, "a full Hash", filled(api.Hash, 1, 1, 0), api.ErrArg)
	checkNoPush(t, "a full Lru", filled(api.Lru, 1, 1, 0), api.ErrArg)
	checkNoPush(t, "a full Ring with another Next", withNext(ring(2, 2, 2), 3), api.ErrArg)
	checkNoPush(t, "a Ring with more than Cap", ring(2, 3, 3), api.ErrArg)
	checkNoPush(t, "a full Ring", ring(2, 2, 2), api.ErrFull)
}

// P5.4: a Ring from its first word on, by hand.
func TestRingByHand(t *testing.T) {
	s := api.Schema{Kind: api.Ring, Cap: 2, Words: 1}
	empty := api.Table{S: s}
	one := api.Table{S: s, Next: 1, E: []api.Entry{entry(0, 8)}}
	two := api.Table{S: s, Next: 2, E: []api.Entry{entry(0, 8), entry(1, 0)}}
	rest := api.Table{S: s, Next: 2, E: []api.Entry{entry(1, 0)}}
	again := api.Table{S: s, Next: 3, E: []api.Entry{entry(1, 0), entry(2, 7)}}
	checkPop(t, "empty", empty, empty, 0, false)
	checkPush(t, "the first word", empty, 8, one)
	checkPush(t, "the second word", one, 0, two)
	checkNoPush(t, "full", two, api.ErrFull)
	checkPop(t, "full", two, rest, 8, true)
	checkPush(t, "room again", rest, 7, again)
	checkPop(t, "a word 0", again, api.Table{S: s, Next: 3, E: []api.Entry{entry(2, 7)}}, 0, true)
	checkPop(t, "the last word", one, api.Table{S: s, Next: 1}, 8, true)
}

// P5.4: the keys pass from 2^32 - 1 to 0.
func TestRingPassesTheGreatestKey(t *testing.T) {
	s := api.Schema{Kind: api.Ring, Cap: 2, Words: 1}
	last := api.Table{S: s, Next: top, E: []api.Entry{entry(top-1, 1)}}
	at := api.Table{S: s, Next: 0, E: []api.Entry{entry(top-1, 1), entry(top, 2)}}
	checkPush(t, "the greatest key", last, 2, at)
	rest := api.Table{S: s, Next: 0, E: []api.Entry{entry(top, 2)}}
	checkPop(t, "ahead of it", at, rest, 1, true)
	passed := api.Table{S: s, Next: 1, E: []api.Entry{entry(top, 2), entry(0, 3)}}
	checkPush(t, "the key 0", rest, 3, passed)
	checkPop(t, "the greatest key", passed, api.Table{S: s, Next: 1, E: []api.Entry{entry(0, 3)}}, 2, true)
}

// P5.5: Pop returns what Push appended, in order, and no more than Cap words
// are held, from several keys on.
func TestRingIsAQueue(t *testing.T) {
	for _, size := range []int{1, 2, 3, 16} {
		for _, next := range []uint32{0, 1, top - 20, top - 1, top} {
			r := ring(size, 0, next)
			var held []uint32
			for step := range uint32(300) {
				if draw(step)%5 < 3 {
					u, e := table.Push(r, step)
					if len(held) == size {
						if e != api.ErrFull {
							t.Fatalf("Push(%+v) is %d", r, e)
						}
						continue
					}
					if e != api.OK || u.Next != r.Next+1 {
						t.Fatalf("Push(%+v) is %+v, %d", r, u, e)
					}
					r, held = u, append(held, step)
				} else {
					u, v, ok := table.Pop(r)
					if ok != (len(held) > 0) || ok && v != held[0] || u.Next != r.Next {
						t.Fatalf("Pop(%+v) is %+v, %d, %v; held are %v", r, u, v, ok, held)
					}
					if r = u; ok {
						held = held[1:]
					}
				}
				checkHeld(t, r, held)
			}
		}
	}
}

// checkHeld checks that a Ring is valid and has just the given words.
func checkHeld(t *testing.T, r api.Table, held []uint32) {
	t.Helper()
	if !table.May(r) || len(r.E) != len(held) || len(r.E) > r.S.Cap {
		t.Fatalf("%+v is not valid, or has not the words %v", r, held)
	}
	for k, e := range r.E {
		if e.V[0] != held[k] {
			t.Fatalf("%+v has not the words %v", r, held)
		}
	}
}
