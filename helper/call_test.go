package helper_test

import (
	"fmt"
	"testing"

	"drydock/api"
	"drydock/helper"
	"drydock/table"
)

// The places of the maps in full.
const (
	atArray = iota
	atHash
	atLru
	atRing
	atWide
)

// full is an environment with a map of each Kind, none of them full, and one
// map more than a program may have: the number of maps is no matter of Call's.
func full() api.Env {
	return env(
		filled(api.Array, 3, 2, 0, 1, 2),
		filled(api.Hash, 4, 3, 5, 0, top),
		filled(api.Lru, 4, 2, 8, 0, 9),
		ring(3, 1, top, 0),
		filled(api.Hash, api.MaxKeys, api.MaxWords, 1, 2, 3),
	)
}

// rightArgs are arguments with which each helper is done in full.
func rightArgs() [api.Helps][]uint32 {
	return [api.Helps][]uint32{
		api.HelpGet:  {atArray, 1, 1},
		api.HelpSet:  {atHash, 5, 2, 6},
		api.HelpDel:  {atHash, 5},
		api.HelpHas:  {atLru, 8},
		api.HelpDraw: {},
		api.HelpPush: {atRing, 4},
	}
}

// badTables are tables that are not valid, though their schemas are, of one
// Kind.
func badTables(kind int) []api.Table {
	next := func(t api.Table, n uint32) api.Table {
		t.Next = n
		return t
	}
	value := func(t api.Table, at int, v ...uint32) api.Table {
		t.E[at].V = v
		return t
	}
	if kind == api.Ring {
		return []api.Table{
			ring(1, 2, 0, 1),
			ring(3, 2, 0),
			ring(3, 0, 0, top),
			ring(3, 3, 0, 2),
			ring(3, 1, 0, 0),
			value(ring(3, 2, 0, 1), 0),
			value(ring(3, 2, 0, 1), 1, 6, 7),
		}
	}
	if kind == api.Array {
		return []api.Table{
			filled(kind, 2, 2),
			filled(kind, 2, 2, 0),
			filled(kind, 2, 2, 1, 0),
			filled(kind, 2, 2, 0, 2),
			filled(kind, 2, 2, 0, 0),
			filled(kind, 2, 2, 0, 1, 2),
			value(filled(kind, 2, 2, 0, 1), 0, 6),
			next(filled(kind, 2, 2, 0, 1), 1),
		}
	}
	return []api.Table{
		filled(kind, 2, 2, 0, 1, 2),
		filled(kind, 2, 2, 0, 0),
		value(filled(kind, 2, 2, 0, 1), 0),
		value(filled(kind, 2, 2, 0, 1), 1, 6),
		value(filled(kind, 2, 2, 0, 1), 1, 6, 7, 8),
		next(filled(kind, 2, 2, 0, 1), 1),
	}
}

// onMap returns the right number of arguments of helper n, of which the first
// one is the map's number.
func onMap(n int, number uint32) []uint32 {
	a := make([]uint32, helper.Args(n))
	a[0] = number
	return a
}

// withMap are the helpers whose first argument is a map.
func withMap() []int {
	return []int{api.HelpGet, api.HelpSet, api.HelpDel, api.HelpHas, api.HelpPush}
}

// P6.2, R4: a number of no helper is ErrArg beside zero values, with any number
// of arguments.
func TestCallOfNoHelper(t *testing.T) {
	for _, n := range noHelpers() {
		for count := range 7 {
			checkArg(t, "no helper", n, full(), make([]uint32, count)...)
			checkArg(t, "no helper", n, api.Env{}, make([]uint32, count)...)
		}
	}
}

// P6.2, R4: any number of arguments but the helper's own is ErrArg beside zero
// values; the environment that is done with the right ones shows that nothing
// else is wrong.
func TestCallWithWrongNumberOfArguments(t *testing.T) {
	for n, right := range rightArgs() {
		if _, _, err := helper.Call(n, full(), right...); err != api.OK {
			t.Fatalf("Call(%d, .., %v) is %d", n, right, err)
		}
		long := append(append([]uint32{}, right...), 0, 0, 0, 0)
		for count := range len(long) {
			if count != len(right) {
				checkArg(t, "wrong number", n, full(), long[:count]...)
			}
		}
		checkArg(t, "very many", n, full(), make([]uint32, 1000)...)
	}
}

// R2: ErrArg comes ahead of ErrFault where both apply.
func TestArgAheadOfFault(t *testing.T) {
	for _, n := range withMap() {
		for _, e := range []api.Env{{}, full(), env(badTables(api.Hash)[0]), env(badTables(api.Ring)[0])} {
			for _, number := range []uint32{0, 5, top} {
				a := onMap(n, number)
				checkArg(t, "one too few", n, e, a[:len(a)-1]...)
				checkArg(t, "one too many", n, e, append(a, top)...)
			}
		}
	}
}

// P6.2: the last map is one, and the number behind it is none; nor are numbers
// whose lower bits are a map's.
func TestMapNumbers(t *testing.T) {
	for _, n := range withMap() {
		kind := api.Hash
		if n == api.HelpPush {
			kind = api.Ring
		}
		for count := range 6 {
			var e api.Env
			for range count {
				u, _ := table.New(api.Schema{Kind: kind, Cap: 2, Words: 1})
				e.T = append(e.T, u)
			}
			name := fmt.Sprint(count, " maps")
			for number := range count {
				if _, _, err := helper.Call(n, e, onMap(n, uint32(number))...); err != api.OK {
					t.Errorf("%s: Call(%d) of map %d is %d", name, n, number, err)
				}
			}
			for _, number := range []uint32{uint32(count), uint32(count) + 1, 256, 1 << 16, 1 << 31, top - 1, top} {
				checkFault(t, name, n, e, onMap(n, number)...)
			}
		}
	}
}

// P6.2: a map to which the helper can not be applied by its Kind is ErrFault,
// though the table is valid.
func TestMapsThatDoNotFit(t *testing.T) {
	e := full()
	for at, u := range e.T {
		if !table.May(u) {
			t.Fatalf("%+v is not valid", u)
		}
		for _, n := range withMap() {
			if !fitting[n][u.S.Kind] {
				checkFault(t, "does not fit", n, e, onMap(n, uint32(at))...)
			}
		}
	}
}

// P6.2: a map with a schema that is not valid is ErrFault, with and without
// entries.
func TestMapsWithBadSchemas(t *testing.T) {
	for kind := range api.Maps {
		for _, s := range badSchemas(kind) {
			for _, l := range [][]api.Entry{nil, {entry(0, 1)}, {entry(0, 1, 2, 3, 4)}} {
				for _, n := range withMap() {
					u := api.Table{S: s, E: l}
					checkFault(t, "bad schema", n, env(full().T[0], u), onMap(n, 1)...)
				}
			}
		}
	}
}

// P6.2: a map with a schema that fits is ErrFault if the table is not valid,
// and comes back as it is.
func TestMapsThatAreNotValid(t *testing.T) {
	for kind := range api.Maps {
		for _, u := range badTables(kind) {
			if table.May(u) {
				t.Fatalf("%+v is valid", u)
			}
			for _, n := range withMap() {
				if fitting[n][kind] && !helper.Fits(n, u.S) {
					t.Fatalf("%+v does not fit %d", u.S, n)
				}
				checkFault(t, "not valid", n, env(u), onMap(n, 0)...)
				checkFault(t, "not valid", n, env(full().T[0], full().T[3], u), onMap(n, 2)...)
			}
		}
	}
}

// P6.2: the tables of other maps are no matter of a call: they may be invalid,
// and come back as they are.
func TestOtherMapsMayBeInvalid(t *testing.T) {
	for kind := range api.Maps {
		for _, bad := range badTables(kind) {
			e := env(bad, filled(api.Hash, 2, 1, 4), api.Table{Next: 5}, ring(2, 1, 0))
			checkDone(t, "get", api.HelpGet, e, []uint32{1, 4, 0}, e, word(4, 0))
			checkDone(t, "set", api.HelpSet, e, []uint32{1, 3, 0, 6}, with(e, 1, withEntry(e.T[1], entry(3, 6))), 0)
			checkDone(t, "del", api.HelpDel, e, []uint32{1, 4}, with(e, 1, filled(api.Hash, 2, 1)), 1)
			checkDone(t, "has", api.HelpHas, e, []uint32{1, 4}, e, 1)
			checkDone(t, "push", api.HelpPush, e, []uint32{3, 6}, with(e, 3, pushed(e.T[3], 6)), 0)
			drawn := e
			drawn.Seed = 1664525*99 + 1013904223
			checkDone(t, "draw", api.HelpDraw, e, nil, drawn, drawn.Seed)
		}
	}
}

// withEntry returns t with one more entry.
func withEntry(t api.Table, x api.Entry) api.Table {
	t.E = append(append([]api.Entry{}, t.E...), x)
	return t
}

// pushed returns a Ring with one more word.
func pushed(t api.Table, v uint32) api.Table {
	t = withEntry(t, entry(t.Next, v))
	t.Next++
	return t
}

// P6.2: for HelpGet and HelpSet the last field is one, and Words is none, also
// where the key is not there; all other helpers have no field.
func TestFields(t *testing.T) {
	for _, kind := range []int{api.Array, api.Hash, api.Lru} {
		for words := 1; words <= api.MaxWords; words++ {
			e := env(filled(kind, 3, words, 0, 1, 2))
			w := uint32(words)
			for field := range w {
				checkDone(t, "field", api.HelpGet, e, []uint32{0, 2, field}, e, word(2, field))
				after := deep(e)
				after.T[0].E[2].V[field] = 55
				checkDone(t, "field", api.HelpSet, e, []uint32{0, 2, field, 55}, after, 0)
			}
			for _, field := range []uint32{w, w + 1, api.MaxWords, 256, 1 << 16, 1 << 31, top - 1, top} {
				for _, key := range []uint32{0, 2, 3, top} {
					checkFault(t, "no field", api.HelpGet, e, 0, key, field)
					checkFault(t, "no field", api.HelpSet, e, 0, key, field, 55)
				}
			}
		}
	}
	e := env(filled(api.Array, 2, 1, 0, 1), ring(2, 1, 0))
	checkDone(t, "has", api.HelpHas, e, []uint32{0, 1}, e, 1)
	checkDone(t, "push", api.HelpPush, e, []uint32{1, top}, with(e, 1, pushed(e.T[1], top)), 0)
}

// P6.2: HelpGet returns the word of a key that is there, and 0 for one that is
// not; an Array and a Hash stay as they are.
func TestGet(t *testing.T) {
	e := full()
	checkDone(t, "Array", api.HelpGet, e, []uint32{atArray, 2, 1}, e, word(2, 1))
	checkDone(t, "Array, no key", api.HelpGet, e, []uint32{atArray, 3, 1}, e, 0)
	checkDone(t, "Array, no key", api.HelpGet, e, []uint32{atArray, top, 1}, e, 0)
	checkDone(t, "Hash", api.HelpGet, e, []uint32{atHash, 5, 0}, e, word(5, 0))
	checkDone(t, "Hash", api.HelpGet, e, []uint32{atHash, top, 2}, e, word(top, 2))
	checkDone(t, "Hash, no key", api.HelpGet, e, []uint32{atHash, 1, 0}, e, 0)
	checkDone(t, "Lru, no key", api.HelpGet, e, []uint32{atLru, 1, 0}, e, 0)
	checkDone(t, "empty", api.HelpGet, env(filled(api.Hash, 2, 1)), []uint32{0, 0, 0}, env(filled(api.Hash, 2, 1)), 0)
	big := env(filled(api.Hash, 1, 1))
	big.T[0].E = []api.Entry{entry(0, top)}
	checkDone(t, "the greatest word", api.HelpGet, big, []uint32{0, 0, 0}, big, top)
}

// P6.2: HelpSet without an error returns 0, and sets the one word.
func TestSet(t *testing.T) {
	e := full()
	after := deep(e)
	after.T[atArray].E[2].V[1] = 55
	checkDone(t, "Array", api.HelpSet, e, []uint32{atArray, 2, 1, 55}, after, 0)
	after = deep(e)
	after.T[atHash].E[2].V[0] = top
	checkDone(t, "Hash", api.HelpSet, e, []uint32{atHash, top, 0, top}, after, 0)
	after = with(e, atHash, withEntry(e.T[atHash], entry(7, 0, 0, 55)))
	checkDone(t, "Hash, new key", api.HelpSet, e, []uint32{atHash, 7, 2, 55}, after, 0)
	after = with(e, atLru, withEntry(e.T[atLru], entry(7, 0, 55)))
	checkDone(t, "Lru, new key", api.HelpSet, e, []uint32{atLru, 7, 1, 55}, after, 0)
	crowded := env(filled(api.Lru, 2, 1, 6, 4))
	want := env(filled(api.Lru, 2, 1, 4))
	want.T[0] = withEntry(want.T[0], entry(5, 55))
	checkDone(t, "Lru, evicted", api.HelpSet, crowded, []uint32{0, 5, 0, 55}, want, 0)
}

// P6.2: HelpSet returns ErrNone and ErrFull of table.Set as words beside OK,
// and then the table is unchanged; what table.Set calls ErrArg is ErrFault.
func TestSetWithErrors(t *testing.T) {
	e := env(filled(api.Array, 3, 2, 0, 1, 2), filled(api.Hash, 2, 2, 4, 6), ring(2, 1, 0))
	for _, key := range []uint32{3, 4, 1 << 31, top} {
		checkDone(t, "Array, no key", api.HelpSet, e, []uint32{0, key, 1, 55}, e, uint32(api.ErrNone))
	}
	for _, key := range []uint32{0, 5, top} {
		checkDone(t, "Hash, full", api.HelpSet, e, []uint32{1, key, 1, 55}, e, uint32(api.ErrFull))
	}
	after := deep(e)
	after.T[1].E[1].V[1] = 55
	checkDone(t, "Hash, full, the key is there", api.HelpSet, e, []uint32{1, 6, 1, 55}, after, 0)
	for at, field := range []uint32{2, 2, 0} {
		if _, err := table.Set(e.T[at], 0, field, 55); err != api.ErrArg {
			t.Fatalf("table.Set(%+v) is %d", e.T[at], err)
		}
		checkFault(t, "ErrArg of table.Set", api.HelpSet, e, uint32(at), 0, field, 55)
	}
}

// P6.2: HelpDel returns 1 and removes the entry, or fills it with zeros in an
// Array; or 0, if there is no such key.
func TestDel(t *testing.T) {
	e := full()
	after := deep(e)
	after.T[atArray].E[1].V = []uint32{0, 0}
	checkDone(t, "Array", api.HelpDel, e, []uint32{atArray, 1}, after, 1)
	checkDone(t, "Array, again", api.HelpDel, after, []uint32{atArray, 1}, after, 1)
	checkDone(t, "Array, no key", api.HelpDel, e, []uint32{atArray, 3}, e, 0)
	after = with(e, atHash, filled(api.Hash, 4, 3, 5, top))
	checkDone(t, "Hash", api.HelpDel, e, []uint32{atHash, 0}, after, 1)
	checkDone(t, "Hash, again", api.HelpDel, after, []uint32{atHash, 0}, after, 0)
	checkDone(t, "Hash, no key", api.HelpDel, e, []uint32{atHash, 6}, e, 0)
	after = with(e, atLru, filled(api.Lru, 4, 2, 0, 9))
	checkDone(t, "Lru", api.HelpDel, e, []uint32{atLru, 8}, after, 1)
	checkDone(t, "Lru, again", api.HelpDel, after, []uint32{atLru, 8}, after, 0)
}

// P6.2: HelpHas returns 1 for keys that are there, whatever their values are,
// and 0 for others; no table changes.
func TestHas(t *testing.T) {
	e := full()
	e.T[atArray].E[1].V = []uint32{0, 0}
	e.T[atHash].E[1].V = []uint32{0, 0, 0}
	e.T[atLru].E[1].V = []uint32{0, 0}
	for at, l := range [][]uint32{atArray: {0, 1, 2}, atHash: {5, 0, top}, atLru: {8, 0, 9}} {
		for _, key := range l {
			checkDone(t, "has", api.HelpHas, e, []uint32{uint32(at), key}, e, 1)
		}
	}
	for at, l := range [][]uint32{atArray: {3, 4, top}, atHash: {1, 4, top - 1}, atLru: {1, 10, top}} {
		for _, key := range l {
			checkDone(t, "has not", api.HelpHas, e, []uint32{uint32(at), key}, e, 0)
		}
	}
	none := env(filled(api.Hash, 1, 1), filled(api.Lru, 1, 1))
	checkDone(t, "empty Hash", api.HelpHas, none, []uint32{0, 0}, none, 0)
	checkDone(t, "empty Lru", api.HelpHas, none, []uint32{1, 0}, none, 0)
}

// P6.2: HelpPush returns 0 and appends the word to a Ring with room, also where
// its keys pass from 2^32 - 1 to 0; to a full one it returns ErrFull as a word
// beside OK, and the Ring is unchanged.
func TestPush(t *testing.T) {
	for _, r := range []api.Table{ring(2, 0), ring(2, 7), ring(2, 1, 0), ring(3, 0, top-1, top), ring(2, top, top-1)} {
		e := env(filled(api.Hash, 2, 1, 4), r)
		for _, v := range []uint32{0, 55, top} {
			checkDone(t, "room", api.HelpPush, e, []uint32{1, v}, with(e, 1, pushed(r, v)), 0)
		}
	}
	for _, r := range []api.Table{ring(1, 1, 0), ring(2, 9, 7, 8), ring(3, 1, top-1, top, 0)} {
		e := env(filled(api.Hash, 2, 1, 4), r)
		checkDone(t, "full", api.HelpPush, e, []uint32{1, 55}, e, uint32(api.ErrFull))
	}
}

// P6.2: HelpDraw returns the new Seed, with and without maps, and changes
// nothing else.
func TestDrawCall(t *testing.T) {
	for _, e := range []api.Env{{}, full(), env(badTables(api.Array)...)} {
		for _, seed := range []uint32{0, 1, 2581, 1 << 31, top} {
			e.Seed = seed
			after := e
			after.Seed = uint32((1664525*uint64(seed) + 1013904223) % (1 << 32))
			checkDone(t, "draw", api.HelpDraw, e, nil, after, after.Seed)
		}
	}
}

// P6.2: in an Lru, HelpGet and HelpSet make an entry the last one, HelpHas does
// not, nor does a key that is not there, a field that is not, or HelpDel of
// another one.
func TestOrderOfAnLru(t *testing.T) {
	e := env(filled(api.Lru, 3, 2, 4, 5, 6))
	for _, key := range []uint32{4, 5, 6, 7} {
		here := uint32(1)
		if key == 7 {
			here = 0
		}
		checkDone(t, "has", api.HelpHas, e, []uint32{0, key}, e, here)
	}
	checkDone(t, "get 4", api.HelpGet, e, []uint32{0, 4, 1}, env(filled(api.Lru, 3, 2, 5, 6, 4)), word(4, 1))
	checkDone(t, "get 5", api.HelpGet, e, []uint32{0, 5, 0}, env(filled(api.Lru, 3, 2, 4, 6, 5)), word(5, 0))
	checkDone(t, "get 6", api.HelpGet, e, []uint32{0, 6, 0}, e, word(6, 0))
	checkDone(t, "get 7", api.HelpGet, e, []uint32{0, 7, 0}, e, 0)
	checkFault(t, "get no field", api.HelpGet, e, 0, 4, 2)
	checkFault(t, "set no field", api.HelpSet, e, 0, 4, 2, 55)
	checkDone(t, "set 4", api.HelpSet, e, []uint32{0, 4, 1, word(4, 1)}, env(filled(api.Lru, 3, 2, 5, 6, 4)), 0)
	checkDone(t, "del 5", api.HelpDel, e, []uint32{0, 5}, env(filled(api.Lru, 3, 2, 4, 6)), 1)

	asked, _, _ := helper.Call(api.HelpHas, e, 0, 4)
	asked, _, _ = helper.Call(api.HelpSet, asked, 0, 8, 0, 1)
	checkDone(t, "evicted behind has", api.HelpHas, asked, []uint32{0, 4}, asked, 0)
	got, _, _ := helper.Call(api.HelpGet, e, 0, 4, 0)
	got, _, _ = helper.Call(api.HelpSet, got, 0, 8, 0, 1)
	checkDone(t, "kept behind get", api.HelpHas, got, []uint32{0, 4}, got, 1)
}

// P6.3: of several maps with the same contents just the one that is named
// changes, and the Seed does not.
func TestOnlyTheNamedMapChanges(t *testing.T) {
	e := env(filled(api.Lru, 2, 1, 3, 4), filled(api.Lru, 2, 1, 3, 4), filled(api.Lru, 2, 1, 3, 4), ring(2, 1, 0), ring(2, 1, 0))
	for at := range 3 {
		number := uint32(at)
		checkDone(t, "get", api.HelpGet, e, []uint32{number, 3, 0}, with(e, at, filled(api.Lru, 2, 1, 4, 3)), word(3, 0))
		checkDone(t, "set", api.HelpSet, e, []uint32{number, 5, 0, word(5, 0)}, with(e, at, filled(api.Lru, 2, 1, 4, 5)), 0)
		checkDone(t, "del", api.HelpDel, e, []uint32{number, 4}, with(e, at, filled(api.Lru, 2, 1, 3)), 1)
		checkDone(t, "has", api.HelpHas, e, []uint32{number, 4}, e, 1)
	}
	for at := 3; at < 5; at++ {
		checkDone(t, "push", api.HelpPush, e, []uint32{uint32(at), 6}, with(e, at, pushed(e.T[at], 6)), 0)
	}
}

// The chapter's example.
func TestExample(t *testing.T) {
	h, _ := table.New(api.Schema{Kind: api.Hash, Cap: 4, Words: 1})
	e, v, err := helper.Call(api.HelpSet, api.Env{T: []api.Table{h}}, 0, 5, 0, 7)
	if v != 0 || err != api.OK {
		t.Errorf("HelpSet is %d, %d", v, err)
	}
	if _, v, err = helper.Call(api.HelpGet, e, 0, 5, 0); v != 7 || err != api.OK {
		t.Errorf("HelpGet is %d, %d", v, err)
	}
}
