package table_test

import (
	"fmt"
	"math"
	"slices"
	"testing"

	"drydock/api"
	"drydock/table"
)

const top = math.MaxUint32 // the greatest key, field and word

// sample is a table, and what it is a sample of.
type sample struct {
	name string
	t    api.Table
}

func entry(key uint32, v ...uint32) api.Entry { return api.Entry{Key: key, V: v} }

// word is what filled tables hold: another word for each key and field, and
// never 0.
func word(key, field uint32) uint32 { return 100*(key%1000003) + field + 7 }

// value is the value of a key in a filled table.
func value(key uint32, words int) []uint32 {
	v := make([]uint32, words)
	for field := range v {
		v[field] = word(key, uint32(field))
	}
	return v
}

// filled returns a table with values of its own for the given keys, valid if
// the keys are.
func filled(kind, keys, words int, l ...uint32) api.Table {
	t := api.Table{S: api.Schema{Kind: kind, Cap: keys, Words: words, Ver: 3}}
	for _, key := range l {
		t.E = append(t.E, api.Entry{Key: key, V: value(key, words)})
	}
	return t
}

// ring returns a Ring with the given number of entries, of which the last one
// has the key next - 1.
func ring(keys, count int, next uint32) api.Table {
	t := filled(api.Ring, keys, 1, counting(next-uint32(count), count)...)
	t.Next = next
	return t
}

// counting returns as many keys as told, one behind the other.
func counting(first uint32, count int) []uint32 {
	l := make([]uint32, count)
	for k := range l {
		l[k] = first + uint32(k)
	}
	return l
}

func withNext(t api.Table, next uint32) api.Table {
	t.Next = next
	return t
}

// withValue returns t with another value at the given index.
func withValue(t api.Table, at int, v ...uint32) api.Table {
	u := deep(t)
	u.E[at].V = v
	return u
}

// deep returns a copy of t that shares nothing with it.
func deep(t api.Table) api.Table {
	u := t
	u.E = nil
	for _, e := range t.E {
		u.E = append(u.E, api.Entry{Key: e.Key, V: append([]uint32(nil), e.V...)})
	}
	return u
}

// equal compares tables part by part, apart from Same.
func equal(t, u api.Table) bool {
	if t.S != u.S || t.Next != u.Next || len(t.E) != len(u.E) {
		return false
	}
	for k := range t.E {
		if t.E[k].Key != u.E[k].Key || !slices.Equal(t.E[k].V, u.E[k].V) {
			return false
		}
	}
	return true
}

// isZero reports whether t is the zero value, which accompanies an error.
func isZero(t api.Table) bool { return t.S == api.Schema{} && t.Next == 0 && len(t.E) == 0 }

func keys(t api.Table) []uint32 {
	l := []uint32{}
	for _, e := range t.E {
		l = append(l, e.Key)
	}
	return l
}

// some keys that a table may have where it is no Array, the ends of the words
// among them.
func someKeys(count int) []uint32 {
	l := []uint32{9, 0, top, 4, 1 << 31, 1, top - 1, 1<<31 - 1, 300, 2, 77, 65536, 5, 1 << 30, 10, 11}
	return l[:count:count]
}

// goodTables are valid tables of every Kind, with few and many entries.
func goodTables() []sample {
	var l []sample
	add := func(t api.Table) {
		name := fmt.Sprintf("Kind %d, Cap %d, Words %d, Next %d, keys %v", t.S.Kind, t.S.Cap, t.S.Words, t.Next, keys(t))
		l = append(l, sample{name, t})
	}
	for _, size := range []int{1, 2, 3, 16} {
		for _, words := range []int{1, 2, 4} {
			add(filled(api.Array, size, words, counting(0, size)...))
			for _, count := range []int{0, 1, size - 1, size} {
				add(filled(api.Hash, size, words, someKeys(count)...))
				add(filled(api.Lru, size, words, someKeys(count)...))
			}
		}
		for _, count := range []int{0, 1, size - 1, size} {
			for _, next := range []uint32{0, 1, 2, 8, 16, 1 << 31, top - 1, top} {
				add(ring(size, count, next))
			}
		}
	}
	return l
}

// badTables are tables that are not valid, as far as possible by one thing
// alone.
func badTables() []sample {
	l := []sample{{"the zero value", api.Table{}}}
	for _, more := range [][]sample{badBySchema(), badByCount(), badByKeys(), badByValues(), badByNext(), badArrays(), badRings()} {
		l = append(l, more...)
	}
	return l
}

// badBySchema would be valid if schemas had no limits.
func badBySchema() []sample {
	l := []sample{
		{"Words 2 of an empty Ring", filled(api.Ring, 2, 2)},
		{"Words 2 of a Ring", withNext(filled(api.Ring, 2, 2, 0, 1), 2)},
		{"Words 0 of a Ring", withNext(filled(api.Ring, 2, 0, 0, 1), 2)},
		{"Cap 17 of an empty Ring", ring(17, 0, 0)},
		{"Cap 17 of a Ring", ring(17, 17, 17)},
		{"Cap 0 of a Ring", ring(0, 0, 0)},
		{"Cap 17 of an Array", filled(api.Array, 17, 1, counting(0, 17)...)},
		{"Cap 0 of an Array", filled(api.Array, 0, 1)},
		{"Cap -1 of an Array", filled(api.Array, -1, 1)},
		{"Words 0 of an Array", filled(api.Array, 2, 0, 0, 1)},
		{"Words 5 of an Array", filled(api.Array, 2, 5, 0, 1)},
	}
	for _, kind := range []int{api.Hash, api.Lru} {
		l = append(l,
			sample{"Cap 17", filled(kind, 17, 1, 1, 2)},
			sample{"Cap 17, full", filled(kind, 17, 1, counting(5, 17)...)},
			sample{"Cap 0", filled(kind, 0, 1)},
			sample{"Cap -1", filled(kind, -1, 1)},
			sample{"Words 0", filled(kind, 2, 0, 1, 2)},
			sample{"Words 5", filled(kind, 2, 5, 1, 2)},
			sample{"Cap far too great", filled(kind, math.MaxInt, 1, 1, 2)},
			sample{"Cap far too small", filled(kind, math.MinInt, 1)},
		)
	}
	for _, kind := range []int{-1, 4, 5, 256, 1 << 32, math.MaxInt, math.MinInt} {
		l = append(l, sample{"Kind", filled(kind, 2, 1, 0, 1)}, sample{"Kind, empty", filled(kind, 2, 1)})
		l = append(l, sample{"Kind, with Next", withNext(filled(kind, 2, 1, 0, 1), 2)})
	}
	for _, ver := range []int{-1, 1001, math.MaxInt, math.MinInt} {
		for _, t := range []api.Table{filled(api.Array, 2, 1, 0, 1), filled(api.Hash, 2, 1, 8), filled(api.Lru, 2, 1, 8), ring(2, 1, 3), ring(2, 0, 0)} {
			t.S.Ver = ver
			l = append(l, sample{"Ver", t})
		}
	}
	for _, words := range []int{-1, math.MaxInt, math.MinInt, 1<<32 + 1} {
		for kind := range api.Maps {
			t := filled(kind, 1, 1)
			t.S.Words = words
			l = append(l, sample{"Words of an empty table", t})
			t = filled(kind, 1, 1, 0)
			if kind == api.Ring {
				t.Next = 1
			}
			t.S.Words = words
			l = append(l, sample{"Words", t})
		}
	}
	return l
}

func badByCount() []sample {
	l := []sample{
		{"more than Cap, Array", filled(api.Array, 2, 1, 0, 1, 2)},
		{"more than Cap, Array of 16", filled(api.Array, 16, 1, counting(0, 17)...)},
	}
	for _, kind := range []int{api.Hash, api.Lru} {
		l = append(l,
			sample{"one more than Cap 1", filled(kind, 1, 1, 5, 6)},
			sample{"one more than Cap 2", filled(kind, 2, 4, 7, 6, 5)},
			sample{"one more than Cap 16", filled(kind, 16, 1, counting(3, 17)...)},
			sample{"far more than Cap", filled(kind, 3, 1, counting(3, 40)...)},
		)
	}
	return append(l,
		sample{"one more than Cap 1, Ring", ring(1, 2, 2)},
		sample{"one more than Cap 2, Ring", ring(2, 3, 9)},
		sample{"one more than Cap 16, Ring", ring(16, 17, 17)},
		sample{"one more than Cap, Ring beyond 2^32 - 1", ring(2, 3, 1)},
	)
}

func badByKeys() []sample {
	var l []sample
	for _, kind := range []int{api.Hash, api.Lru} {
		l = append(l,
			sample{"a key twice", filled(kind, 2, 1, 5, 5)},
			sample{"key 0 twice", filled(kind, 2, 1, 0, 0)},
			sample{"the greatest key twice", filled(kind, 2, 1, top, top)},
			sample{"the first key once more behind it", filled(kind, 4, 1, 5, 5, 6, 7)},
			sample{"the first key once more at the end", filled(kind, 4, 1, 5, 6, 7, 5)},
			sample{"the last key twice", filled(kind, 4, 1, 5, 6, 7, 7)},
			sample{"a key in the middle twice", filled(kind, 4, 2, 5, 6, 6, 7)},
			sample{"a key thrice", filled(kind, 4, 2, 6, 6, 6)},
			sample{"a key twice among 16", filled(kind, 16, 1, append(counting(0, 15), 14)...)},
			sample{"a key twice, with other values", withValue(filled(kind, 3, 1, 5, 6, 5), 2, 99)},
		)
	}
	return l
}

// badByValues have a value with a word too few or too many, at each place.
func badByValues() []sample {
	var l []sample
	good := []api.Table{
		filled(api.Array, 3, 1, 0, 1, 2), filled(api.Array, 3, 4, 0, 1, 2), filled(api.Array, 1, 2, 0),
		filled(api.Hash, 3, 1, 7, 5, 6), filled(api.Hash, 4, 4, 7, 5, 6), filled(api.Hash, 1, 2, 7),
		filled(api.Lru, 3, 1, 7, 5, 6), filled(api.Lru, 4, 4, 7, 5, 6), filled(api.Lru, 1, 2, 7),
		ring(3, 3, 3), ring(4, 3, 1), ring(1, 1, 1),
	}
	for _, t := range good {
		for at := range t.E {
			v := value(t.E[at].Key, t.S.Words)
			l = append(l,
				sample{"a word too many", withValue(t, at, append(slices.Clone(v), 8)...)},
				sample{"a word too few", withValue(t, at, v[1:]...)},
				sample{"no word", withValue(t, at)},
				sample{"far too many words", withValue(t, at, make([]uint32, 20)...)},
			)
		}
	}
	return l
}

func badByNext() []sample {
	var l []sample
	for _, next := range []uint32{1, 2, 3, 1 << 31, top} {
		for _, t := range []api.Table{
			filled(api.Array, 1, 1, 0), filled(api.Array, 3, 2, 0, 1, 2),
			filled(api.Hash, 2, 1), filled(api.Hash, 2, 1, 0), filled(api.Hash, 2, 1, 0, 1),
			filled(api.Lru, 2, 1), filled(api.Lru, 2, 1, 0), filled(api.Lru, 2, 1, 0, 1),
		} {
			l = append(l, sample{"Next", withNext(t, next)})
		}
	}
	return l
}

func badArrays() []sample {
	return []sample{
		{"no key of an Array", filled(api.Array, 1, 1)},
		{"no key of an Array of 3", filled(api.Array, 3, 1)},
		{"the first key missing", filled(api.Array, 3, 1, 1, 2)},
		{"a key missing in the middle", filled(api.Array, 3, 1, 0, 2)},
		{"the last key missing", filled(api.Array, 3, 1, 0, 1)},
		{"the last of 16 keys missing", filled(api.Array, 16, 4, counting(0, 15)...)},
		{"two keys in another order", filled(api.Array, 3, 1, 1, 0, 2)},
		{"the last two keys in another order", filled(api.Array, 3, 1, 0, 2, 1)},
		{"decreasing keys", filled(api.Array, 3, 1, 2, 1, 0)},
		{"the last key first", filled(api.Array, 3, 1, 2, 0, 1)},
		{"a key beyond Cap", filled(api.Array, 3, 1, 0, 1, 3)},
		{"a key far beyond Cap", filled(api.Array, 3, 1, 0, 1, top)},
		{"all keys one greater", filled(api.Array, 3, 1, 1, 2, 3)},
		{"all keys one less", filled(api.Array, 3, 1, top, 0, 1)},
		{"the only key is 1", filled(api.Array, 1, 1, 1)},
		{"a key twice in an Array", filled(api.Array, 3, 1, 0, 1, 1)},
		{"key 0 twice in an Array", filled(api.Array, 3, 1, 0, 0, 2)},
	}
}

func badRings() []sample {
	of := func(next uint32, l ...uint32) api.Table { return withNext(filled(api.Ring, 4, 1, l...), next) }
	return []sample{
		{"the second key left out", of(4, 0, 2, 3)},
		{"the third key left out", of(4, 0, 1, 3)},
		{"a key left out at the passage to 0", of(2, top, 1)},
		{"0 left out at the passage", of(3, top-1, top, 1, 2)},
		{"2^32 - 1 left out at the passage", of(2, top-1, 0, 1)},
		{"decreasing keys, the last one Next - 1", of(1, 2, 1, 0)},
		{"decreasing keys, the first one Next - 1", of(3, 2, 1, 0)},
		{"decreasing keys at the passage", of(0, 0, top)},
		{"decreasing keys at the passage, the first one Next - 1", of(1, 0, top)},
		{"the first two keys in another order", of(3, 1, 0, 2)},
		{"the last two keys in another order", of(3, 0, 2, 1)},
		{"a key twice in a Ring", of(2, 1, 1)},
		{"the first key twice in a Ring", of(3, 1, 1, 2)},
		{"the last key twice in a Ring", of(3, 1, 2, 2)},
		{"the last key is Next", of(2, 0, 1, 2)},
		{"the last key is Next, one entry", of(0, 0)},
		{"the last key is Next, one entry at 2^32 - 1", of(top, top)},
		{"the last key is Next - 2", of(4, 0, 1, 2)},
		{"the last key is Next - 2, one entry", of(2, 0)},
		{"the last key is Next - 2 at the passage", of(1, top-1, top)},
		{"the first key is Next - 1", of(1, 0, 1, 2)},
		{"Next is 0, the keys count from 0", of(0, 0, 1, 2)},
		{"Next is far beyond the last key", of(1<<31, 0, 1, 2)},
		{"the last key is 2^31 less than it should be", of(3, 1<<31, 1<<31+1, 1<<31+2)},
	}
}

// P5.1: the constants are the numbers that the chapter speaks of.
func TestNumbers(t *testing.T) {
	if api.Array != 0 || api.Hash != 1 || api.Lru != 2 || api.Ring != 3 || api.Maps != 4 {
		t.Errorf("the kinds are %d, %d, %d, %d, %d", api.Array, api.Hash, api.Lru, api.Ring, api.Maps)
	}
	if api.OK != 0 || api.ErrArg != 1 || api.ErrNone != 3 || api.ErrFull != 4 {
		t.Errorf("the errors are %d, %d, %d, %d", api.OK, api.ErrArg, api.ErrNone, api.ErrFull)
	}
}

// P5.1: a new table has its schema, Next 0 and no entries, but an Array all of
// them, with zeros; it is valid.
func TestNew(t *testing.T) {
	for kind := range api.Maps {
		for _, size := range []int{1, 2, 15, 16} {
			for _, words := range []int{1, 2, 4} {
				if kind == api.Ring && words > 1 {
					continue
				}
				for _, ver := range []int{0, 1, 1000} {
					s := api.Schema{Kind: kind, Cap: size, Words: words, Ver: ver}
					want := api.Table{S: s}
					for key := 0; kind == api.Array && key < size; key++ {
						want.E = append(want.E, api.Entry{Key: uint32(key), V: make([]uint32, words)})
					}
					got, e := table.New(s)
					if e != api.OK || !equal(got, want) || !table.May(got) {
						t.Errorf("New(%+v) is %+v, %d; want %+v, 0", s, got, e, want)
					}
				}
			}
		}
	}
}

// P5.1, by hand.
func TestNewByHand(t *testing.T) {
	s := api.Schema{Kind: api.Array, Cap: 2, Words: 3, Ver: 7}
	got, e := table.New(s)
	want := api.Table{S: s, E: []api.Entry{entry(0, 0, 0, 0), entry(1, 0, 0, 0)}}
	if e != api.OK || !equal(got, want) {
		t.Errorf("New(%+v) is %+v, %d", s, got, e)
	}
}

// P5.1, P1: there is no table of a schema that is not valid.
func TestNewOfInvalidSchemas(t *testing.T) {
	l := []api.Schema{{}}
	for kind := range api.Maps {
		for _, n := range []int{-1, 0, 17, 256 + 1, math.MaxInt, math.MinInt} {
			l = append(l, api.Schema{Kind: kind, Cap: n, Words: 1})
		}
		for _, n := range []int{-1, 0, 5, 256 + 1, math.MaxInt, math.MinInt} {
			l = append(l, api.Schema{Kind: kind, Cap: 1, Words: n})
		}
		for _, n := range []int{-1, 1001, math.MaxInt, math.MinInt} {
			l = append(l, api.Schema{Kind: kind, Cap: 1, Words: 1, Ver: n})
		}
	}
	for _, n := range []int{-1, 4, 256, math.MaxInt, math.MinInt} {
		l = append(l, api.Schema{Kind: n, Cap: 1, Words: 1})
	}
	for words := 2; words <= 4; words++ {
		l = append(l, api.Schema{Kind: api.Ring, Cap: 1, Words: words})
	}
	for _, s := range l {
		if got, e := table.New(s); e != api.ErrArg || !isZero(got) {
			t.Errorf("New(%+v) is %+v, %d; want the zero value, %d", s, got, e, api.ErrArg)
		}
	}
}

// P5.1: tables that are valid, and tables that are not.
func TestMay(t *testing.T) {
	for _, s := range goodTables() {
		if !table.May(s.t) {
			t.Errorf("%s: %+v is not valid", s.name, s.t)
		}
	}
	for _, s := range badTables() {
		if table.May(s.t) {
			t.Errorf("%s: %+v is valid", s.name, s.t)
		}
	}
}

// P5.1: Rings whose keys pass from 2^32 - 1 to 0, and empty ones with any Next,
// are valid.
func TestMayOfRings(t *testing.T) {
	s := api.Schema{Kind: api.Ring, Cap: 4, Words: 1}
	l := []api.Table{
		{S: s, Next: 1, E: []api.Entry{entry(top, 5), entry(0, 5)}},
		{S: s, Next: 2, E: []api.Entry{entry(top-1, 5), entry(top, 6), entry(0, 7), entry(1, 8)}},
		{S: s, Next: 0, E: []api.Entry{entry(top-1, 5), entry(top, 6)}},
		{S: s, Next: 0, E: []api.Entry{entry(top, 6)}},
		{S: s, Next: 1, E: []api.Entry{entry(0, 0)}},
		{S: s, Next: top, E: []api.Entry{entry(top-1, 0)}},
		{S: s}, {S: s, Next: 1}, {S: s, Next: 1 << 31}, {S: s, Next: top},
	}
	for _, u := range l {
		if !table.May(u) {
			t.Errorf("%+v is not valid", u)
		}
	}
}

// differing are tables of which each differs from the first one in just one
// thing.
func differing() []sample {
	base := func() api.Table {
		return api.Table{
			S:    api.Schema{Kind: api.Lru, Cap: 4, Words: 2, Ver: 3},
			E:    []api.Entry{entry(7, 1, 2), entry(5, 3, 4), entry(6, 5, 6)},
			Next: 8,
		}
	}
	l := []sample{{"itself", base()}}
	add := func(name string, change func(*api.Table)) {
		t := base()
		change(&t)
		l = append(l, sample{name, t})
	}
	add("Kind", func(t *api.Table) { t.S.Kind = api.Hash })
	add("Cap", func(t *api.Table) { t.S.Cap = 5 })
	add("Words", func(t *api.Table) { t.S.Words = 3 })
	add("Ver", func(t *api.Table) { t.S.Ver = 4 })
	add("Next", func(t *api.Table) { t.Next = 9 })
	add("Next is 0", func(t *api.Table) { t.Next = 0 })
	for at := range 3 {
		add("a key", func(t *api.Table) { t.E[at].Key = 99 })
		add("a key by its highest bit", func(t *api.Table) { t.E[at].Key ^= 1 << 31 })
		add("the first word", func(t *api.Table) { t.E[at].V[0] = 99 })
		add("the last word", func(t *api.Table) { t.E[at].V[1] = 99 })
		add("a word by its highest bit", func(t *api.Table) { t.E[at].V[1] ^= 1 << 31 })
		add("a word fewer", func(t *api.Table) { t.E[at].V = t.E[at].V[:1] })
		add("a word more", func(t *api.Table) { t.E[at].V = append(t.E[at].V, 0) })
		add("no word", func(t *api.Table) { t.E[at].V = nil })
		add("an entry fewer", func(t *api.Table) { t.E = slices.Delete(t.E, at, at+1) })
	}
	add("no entries", func(t *api.Table) { t.E = nil })
	add("an entry more", func(t *api.Table) { t.E = append(t.E, entry(8, 0, 0)) })
	add("an empty entry more", func(t *api.Table) { t.E = append(t.E, api.Entry{}) })
	add("the last entry twice", func(t *api.Table) { t.E = append(t.E, entry(6, 5, 6)) })
	add("the first two in another order", func(t *api.Table) { t.E[0], t.E[1] = t.E[1], t.E[0] })
	add("the last two in another order", func(t *api.Table) { t.E[1], t.E[2] = t.E[2], t.E[1] })
	add("the keys in another order", func(t *api.Table) { t.E[0].Key, t.E[1].Key = t.E[1].Key, t.E[0].Key })
	add("the values in another order", func(t *api.Table) { t.E[0].V, t.E[1].V = t.E[1].V, t.E[0].V })
	return l
}

// P5.1: Same tells apart tables that differ in just one thing each, either way
// round, and takes each for the same as a copy of it.
func TestSame(t *testing.T) {
	l := differing()
	for i, a := range l {
		for j, b := range l {
			if got, want := table.Same(a.t, deep(b.t)), equal(a.t, b.t); got != want {
				t.Errorf("%s, %s: Same(%+v, %+v) is %v", a.name, b.name, a.t, b.t, got)
			}
			if (i == 0) != (j == 0) && table.Same(a.t, b.t) {
				t.Errorf("Same does not tell apart %s, %s", a.name, b.name)
			}
		}
	}
}

// P5.1: Same does not ask whether tables are valid, and takes nil for empty.
func TestSameOfAnyTables(t *testing.T) {
	for _, s := range append(goodTables(), badTables()...) {
		if !table.Same(s.t, s.t) || !table.Same(s.t, deep(s.t)) {
			t.Errorf("%s: %+v is not the same as itself", s.name, s.t)
		}
		if s.name != "the zero value" && (table.Same(s.t, api.Table{}) || table.Same(api.Table{}, s.t)) {
			t.Errorf("%s: %+v is the same as the zero value", s.name, s.t)
		}
	}
	if !table.Same(api.Table{}, api.Table{E: []api.Entry{}}) || !table.Same(api.Table{E: []api.Entry{}}, api.Table{}) {
		t.Errorf("no entries are not the same as nil")
	}
	a, b := api.Table{E: []api.Entry{{Key: 1}}}, api.Table{E: []api.Entry{{Key: 1, V: []uint32{}}}}
	if !table.Same(a, b) || !table.Same(b, a) {
		t.Errorf("no words are not the same as nil")
	}
}
