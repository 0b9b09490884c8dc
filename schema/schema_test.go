package schema_test

import (
	"bytes"
	"math"
	"slices"
	"testing"

	"drydock/api"
	"drydock/schema"
)

// sample is a valid schema, its encoding and its room.
type sample struct {
	name string
	s    api.Schema
	b    []byte
	room int
}

// samples are valid schemas of every kind, with their parts at and next to the
// ends of their ranges, and encodings and rooms worked out by hand.
func samples() []sample {
	return []sample{
		{"the document's example", api.Schema{Kind: api.Hash, Cap: 4, Words: 2, Ver: 258}, []byte{1, 4, 2, 1, 2}, 12},
		{"array, all at the low end", api.Schema{Kind: api.Array, Cap: 1, Words: 1, Ver: 0}, []byte{0, 1, 1, 0, 0}, 2},
		{"array, all at the high end", api.Schema{Kind: api.Array, Cap: 16, Words: 4, Ver: 1000}, []byte{0, 16, 4, 3, 232}, 80},
		{"hash, all at the low end", api.Schema{Kind: api.Hash, Cap: 1, Words: 1, Ver: 0}, []byte{1, 1, 1, 0, 0}, 2},
		{"hash, all at the high end", api.Schema{Kind: api.Hash, Cap: 16, Words: 4, Ver: 1000}, []byte{1, 16, 4, 3, 232}, 80},
		{"lru, all at the low end", api.Schema{Kind: api.Lru, Cap: 1, Words: 1, Ver: 0}, []byte{2, 1, 1, 0, 0}, 2},
		{"lru, all at the high end", api.Schema{Kind: api.Lru, Cap: 16, Words: 4, Ver: 1000}, []byte{2, 16, 4, 3, 232}, 80},
		{"ring, all at the low end", api.Schema{Kind: api.Ring, Cap: 1, Words: 1, Ver: 0}, []byte{3, 1, 1, 0, 0}, 2},
		{"ring, all at the high end", api.Schema{Kind: api.Ring, Cap: 16, Words: 1, Ver: 1000}, []byte{3, 16, 1, 3, 232}, 32},
		{"one key, four words", api.Schema{Kind: api.Array, Cap: 1, Words: 4, Ver: 1}, []byte{0, 1, 4, 0, 1}, 5},
		{"sixteen keys, one word", api.Schema{Kind: api.Lru, Cap: 16, Words: 1, Ver: 2}, []byte{2, 16, 1, 0, 2}, 32},
		{"next to the high ends", api.Schema{Kind: api.Hash, Cap: 15, Words: 3, Ver: 999}, []byte{1, 15, 3, 3, 231}, 60},
		{"Ver fills a byte", api.Schema{Kind: api.Array, Cap: 2, Words: 2, Ver: 255}, []byte{0, 2, 2, 0, 255}, 6},
		{"Ver needs two bytes", api.Schema{Kind: api.Array, Cap: 2, Words: 2, Ver: 256}, []byte{0, 2, 2, 1, 0}, 6},
		{"Ver in both bytes", api.Schema{Kind: api.Ring, Cap: 7, Words: 1, Ver: 513}, []byte{3, 7, 1, 2, 1}, 14},
	}
}

// base is valid, whatever one of its parts becomes within its range.
func base() api.Schema { return api.Schema{Kind: api.Lru, Cap: 5, Words: 2, Ver: 40} }

func ring() api.Schema { return api.Schema{Kind: api.Ring, Cap: 5, Words: 1, Ver: 40} }

// changed returns s with the numbered part set to n.
func changed(s api.Schema, part, n int) api.Schema {
	switch part {
	case 0:
		s.Kind = n
	case 1:
		s.Cap = n
	case 2:
		s.Words = n
	case 3:
		s.Ver = n
	}
	return s
}

const parts = 4

// badSchemas break one rule of the definition each: next to the limits, far
// beyond them, and with numbers that are small in fewer bits.
func badSchemas() []api.Schema {
	l := []api.Schema{
		{},
		changed(base(), 0, -1), changed(base(), 0, 4),
		changed(base(), 1, -1), changed(base(), 1, 0), changed(base(), 1, 17),
		changed(base(), 2, -1), changed(base(), 2, 0), changed(base(), 2, 5),
		changed(base(), 3, -1), changed(base(), 3, 1001), changed(base(), 3, 1024),
		changed(ring(), 2, 0), changed(ring(), 2, 2), changed(ring(), 2, 4),
	}
	far := []int{
		math.MinInt, math.MinInt + 1, -1 << 32, math.MinInt32, -65536, -65535, -256, -255,
		65535, 65536, 65537, 1<<16 + 40, math.MaxInt32, 1 << 32, 1<<32 + 1, math.MaxInt - 1, math.MaxInt,
	}
	for part := range parts {
		for _, n := range far {
			l = append(l, changed(base(), part, n), changed(ring(), part, n))
		}
	}
	for _, n := range []int{255, 256, 257, 258} {
		l = append(l, changed(base(), 0, n), changed(base(), 1, n), changed(base(), 2, n))
	}
	return l
}

// valid is the chapter's definition, sentence by sentence.
func valid(s api.Schema) bool {
	if s.Kind != 0 && s.Kind != 1 && s.Kind != 2 && s.Kind != 3 {
		return false
	}
	if s.Cap < 1 || s.Cap > 16 || s.Words < 1 || s.Words > 4 {
		return false
	}
	if s.Kind == 3 && s.Words != 1 {
		return false
	}
	return s.Ver >= 0 && s.Ver <= 1000
}

// encoding is what the chapter's rule makes of any schema, valid or not, cut to
// bytes.
func encoding(s api.Schema) []byte {
	return []byte{byte(s.Kind), byte(s.Cap), byte(s.Words), byte(s.Ver / 256), byte(s.Ver % 256)}
}

func listEncoding(l []api.Schema) []byte {
	b := []byte{byte(len(l))}
	for _, s := range l {
		b = append(b, encoding(s)...)
	}
	return b
}

// eachSchema calls f with every combination of parts in and next to their
// ranges, with some Ver.
func eachSchema(f func(api.Schema)) {
	for kind := -1; kind <= 4; kind++ {
		for keys := -1; keys <= 17; keys++ {
			for words := -1; words <= 5; words++ {
				for _, ver := range []int{-1, 0, 1, 255, 256, 257, 258, 999, 1000, 1001} {
					f(api.Schema{Kind: kind, Cap: keys, Words: words, Ver: ver})
				}
			}
		}
	}
}

// lists are valid lists of every length, some with equal elements.
func lists() [][]api.Schema {
	all := []api.Schema{}
	for _, s := range samples() {
		all = append(all, s.s)
	}
	l := [][]api.Schema{nil, {}, {base(), base()}, {ring(), base(), ring()}}
	for size := 1; size <= api.MaxMaps; size++ {
		for at := range len(all) - size + 1 {
			l = append(l, slices.Clone(all[at:at+size]))
		}
	}
	return l
}

func mustPut(t *testing.T, l []api.Schema) []byte {
	t.Helper()
	b, e := schema.Put(l)
	if e != api.OK {
		t.Fatalf("Put(%+v) is %d", l, e)
	}
	return b
}

// P4.1, P4.2: the constants are the numbers that the chapter speaks of.
func TestNumbers(t *testing.T) {
	if api.Array != 0 || api.Hash != 1 || api.Lru != 2 || api.Ring != 3 || api.Maps != 4 {
		t.Errorf("the kinds are %d, %d, %d, %d, %d", api.Array, api.Hash, api.Lru, api.Ring, api.Maps)
	}
	if api.MaxKeys != 16 || api.MaxWords != 4 || api.MaxVer != 1000 || api.MaxMaps != 4 {
		t.Errorf("the limits are %d, %d, %d, %d", api.MaxKeys, api.MaxWords, api.MaxVer, api.MaxMaps)
	}
	if api.OK != 0 || api.ErrArg != 1 || api.ErrForm != 7 {
		t.Errorf("the errors are %d, %d, %d", api.OK, api.ErrArg, api.ErrForm)
	}
	if schema.Same != 0 || schema.Grown != 1 || schema.Other != 2 {
		t.Errorf("the results of Step are %d, %d, %d", schema.Same, schema.Grown, schema.Other)
	}
}

// P4.1, P4.3: valid schemas are valid, take as many words as the chapter says,
// are encoded byte by byte as it says, and come back from their encodings.
func TestValidSchemas(t *testing.T) {
	for _, s := range samples() {
		if !schema.May(s.s) {
			t.Errorf("%s: %+v is not valid", s.name, s.s)
		}
		if n := schema.Room(s.s); n != s.room {
			t.Errorf("%s: Room(%+v) is %d; want %d", s.name, s.s, n, s.room)
		}
		l, want := []api.Schema{s.s}, append([]byte{1}, s.b...)
		if b, e := schema.Put(l); e != api.OK || !bytes.Equal(b, want) {
			t.Errorf("%s: Put(%+v) is %v, %d; want %v, 0", s.name, l, b, e, want)
		}
		if got, e := schema.Get(want); e != api.OK || !slices.Equal(got, l) {
			t.Errorf("%s: Get(%v) is %+v, %d; want %+v, 0", s.name, want, got, e, l)
		}
	}
}

// checkRefused checks that s is not valid, alone and at each place of a list.
func checkRefused(t *testing.T, s api.Schema) {
	t.Helper()
	if schema.May(s) || schema.Room(s) != 0 {
		t.Errorf("%+v: May is %v, Room is %d; want false, 0", s, schema.May(s), schema.Room(s))
	}
	for size := 1; size <= api.MaxMaps; size++ {
		for place := range size {
			l := slices.Repeat([]api.Schema{base()}, size)
			l[place] = s
			if b, e := schema.Put(l); e != api.ErrArg || len(b) != 0 {
				t.Errorf("Put(%+v) is %v, %d; want none, %d", l, b, e, api.ErrArg)
			}
		}
	}
}

// P4.1, P1: schemas that are not valid, by each of their parts.
func TestInvalidSchemas(t *testing.T) {
	for _, s := range badSchemas() {
		checkRefused(t, s)
	}
}

// P4.1: a Ring has one word only, the other kinds have up to four.
func TestWordsOfEachKind(t *testing.T) {
	for kind, most := range []int{4, 4, 4, 1} {
		for words := -1; words <= 6; words++ {
			s := api.Schema{Kind: kind, Cap: 3, Words: words, Ver: 7}
			want := words >= 1 && words <= most
			if schema.May(s) != want {
				t.Errorf("May(%+v) is %v; want %v", s, !want, want)
			}
			if n := schema.Room(s); want && n != 3*(words+1) || !want && n != 0 {
				t.Errorf("Room(%+v) is %d", s, n)
			}
		}
	}
}

// P4.1, P4.3: May, Room, Put and Get agree with the definition on all
// combinations in and next to the ranges.
func TestAgainstTheDefinition(t *testing.T) {
	found := 0
	eachSchema(func(s api.Schema) {
		if !valid(s) {
			checkRefused(t, s)
			return
		}
		found++
		l := []api.Schema{s}
		b, e := schema.Put(l)
		if !schema.May(s) || schema.Room(s) != s.Cap*s.Words+s.Cap || e != api.OK || !bytes.Equal(b, listEncoding(l)) {
			t.Errorf("%+v: May is %v, Room is %d, Put is %v, %d", s, schema.May(s), schema.Room(s), b, e)
		}
		if got, e := schema.Get(b); e != api.OK || !slices.Equal(got, l) {
			t.Errorf("Get(Put(%+v)) is %+v, %d", l, got, e)
		}
	})
	// Three kinds with 4 Words and a Ring with 1, each with 16 Cap and 8 Ver.
	if want := (3*4 + 1) * 16 * 8; found != want {
		t.Errorf("%d valid schemas; want %d", found, want)
	}
}

// P4.1, P4.3: every valid Ver comes back from its two bytes, high byte first.
func TestEveryVer(t *testing.T) {
	for ver := range api.MaxVer + 1 {
		l := []api.Schema{changed(base(), 3, ver)}
		b, e := schema.Put(l)
		if want := []byte{1, 2, 5, 2, byte(ver / 256), byte(ver % 256)}; e != api.OK || !bytes.Equal(b, want) {
			t.Errorf("Put(%+v) is %v, %d; want %v, 0", l, b, e, want)
		}
		if got, e := schema.Get(b); e != api.OK || !slices.Equal(got, l) {
			t.Errorf("Get(%v) is %+v, %d; want %+v, 0", b, got, e, l)
		}
	}
}

// P4.1: an encoding of several schemas, written out by hand.
func TestPutExample(t *testing.T) {
	l := []api.Schema{
		{Kind: api.Hash, Cap: 4, Words: 2, Ver: 258},
		{Kind: api.Ring, Cap: 16, Words: 1},
		{Kind: api.Array, Cap: 1, Words: 4, Ver: 1000},
		{Kind: api.Lru, Cap: 2, Words: 1, Ver: 255},
	}
	want := []byte{4, 1, 4, 2, 1, 2, 3, 16, 1, 0, 0, 0, 1, 4, 3, 232, 2, 2, 1, 0, 255}
	if b, e := schema.Put(l); e != api.OK || !bytes.Equal(b, want) {
		t.Errorf("Put is %v, %d; want %v, 0", b, e, want)
	}
	if got, e := schema.Get(want); e != api.OK || !slices.Equal(got, l) {
		t.Errorf("Get is %+v, %d; want %+v, 0", got, e, l)
	}
}

// P4.1: no schema at all is a list too, whether nil or empty.
func TestNoSchema(t *testing.T) {
	for _, l := range [][]api.Schema{nil, {}, make([]api.Schema, 0, 9)} {
		if b, e := schema.Put(l); e != api.OK || !bytes.Equal(b, []byte{0}) {
			t.Errorf("Put of no schema is %v, %d; want [0], 0", b, e)
		}
	}
	if l, e := schema.Get([]byte{0}); e != api.OK || len(l) != 0 {
		t.Errorf("Get([0]) is %+v, %d; want none, 0", l, e)
	}
}

// P4.1, P1: lists with up to 4 schemas are encoded, longer ones are not, also
// those whose length is small in a byte.
func TestNumberOfSchemas(t *testing.T) {
	for _, size := range []int{0, 1, 2, 3, 4, 5, 6, 16, 255, 256, 257, 260, 65536} {
		l := slices.Repeat([]api.Schema{base()}, size)
		b, e := schema.Put(l)
		if size <= 4 && (e != api.OK || !bytes.Equal(b, listEncoding(l))) {
			t.Errorf("Put of %d schemas is %v, %d", size, b, e)
		}
		if size > 4 && (e != api.ErrArg || len(b) != 0) {
			t.Errorf("Put of %d schemas is %v, %d; want none, %d", size, b, e, api.ErrArg)
		}
	}
}

// P4.1, P1: too many schemas of which one is not valid have the same error.
func TestTooManyAndInvalid(t *testing.T) {
	for place := range 5 {
		l := slices.Repeat([]api.Schema{base()}, 5)
		l[place] = api.Schema{}
		if b, e := schema.Put(l); e != api.ErrArg || len(b) != 0 {
			t.Errorf("Put(%+v) is %v, %d; want none, %d", l, b, e, api.ErrArg)
		}
	}
}

// P4.3: a list comes back from its encoding, and the encoding from the list.
func TestThereAndBack(t *testing.T) {
	for _, l := range lists() {
		b := mustPut(t, l)
		if !bytes.Equal(b, listEncoding(l)) {
			t.Errorf("Put(%+v) is %v; want %v", l, b, listEncoding(l))
		}
		got, e := schema.Get(b)
		if e != api.OK || !slices.Equal(got, l) {
			t.Errorf("Get(Put(%+v)) is %+v, %d", l, got, e)
		}
		if again := mustPut(t, got); !bytes.Equal(again, b) {
			t.Errorf("Put(Get(%v)) is %v", b, again)
		}
	}
}

func checkNoForm(t *testing.T, name string, b []byte) {
	t.Helper()
	if l, e := schema.Get(b); e != api.ErrForm || len(l) != 0 {
		t.Errorf("%s: Get(%v) is %+v, %d; want none, %d", name, b, l, e, api.ErrForm)
	}
}

// P4.1, P1: bytes that end too early, at every place, or go on too long.
func TestGetOfAnotherLength(t *testing.T) {
	checkNoForm(t, "nil", nil)
	checkNoForm(t, "none", []byte{})
	for _, l := range lists() {
		b := listEncoding(l)
		for size := range b {
			checkNoForm(t, "too few", b[:size])
		}
		for extra := 1; extra <= 2*5; extra++ {
			checkNoForm(t, "too many zeros", append(slices.Clone(b), make([]byte, extra)...))
		}
		checkNoForm(t, "a schema more", append(slices.Clone(b), encoding(base())...))
		checkNoForm(t, "twice", append(slices.Clone(b), b...))
	}
}

// P4.1, P1: bytes are accepted only if they hold as many schemas as they tell,
// up to 4.
func TestGetOfEveryNumberOfSchemas(t *testing.T) {
	for held := range 9 {
		l := slices.Repeat([]api.Schema{base()}, held)
		b := listEncoding(l)
		for told := range 256 {
			b[0] = byte(told)
			if told != held || told > api.MaxMaps {
				checkNoForm(t, "another number", b)
			} else if got, e := schema.Get(b); e != api.OK || !slices.Equal(got, l) {
				t.Errorf("Get(%v) is %+v, %d; want %+v, 0", b, got, e, l)
			}
		}
	}
}

// P4.1, P1: more schemas than a list may have, though each of them is held.
func TestGetOfTooManySchemas(t *testing.T) {
	for _, size := range []int{5, 6, 8, 16, 127, 128, 254, 255, 256, 260} {
		checkNoForm(t, "too many schemas", listEncoding(slices.Repeat([]api.Schema{base()}, size)))
	}
}

// P4.1, P1: the bytes of schemas that are not valid, at each place.
func TestGetOfInvalidSchemas(t *testing.T) {
	bad := [][]byte{
		{4, 1, 1, 0, 0}, {5, 1, 1, 0, 0}, {255, 1, 1, 0, 0},
		{0, 0, 1, 0, 0}, {0, 17, 1, 0, 0}, {0, 255, 1, 0, 0},
		{0, 1, 0, 0, 0}, {0, 1, 5, 0, 0}, {0, 1, 255, 0, 0},
		{3, 1, 0, 0, 0}, {3, 1, 2, 0, 0}, {3, 1, 4, 0, 0},
		{0, 1, 1, 3, 233}, {0, 1, 1, 4, 0}, {0, 1, 1, 4, 232}, {0, 1, 1, 128, 0}, {0, 1, 1, 255, 255},
		{0, 0, 0, 0, 0}, {255, 255, 255, 255, 255},
	}
	for _, x := range bad {
		for size := 1; size <= api.MaxMaps; size++ {
			for place := range size {
				b := listEncoding(slices.Repeat([]api.Schema{base()}, size))
				copy(b[1+5*place:], x)
				checkNoForm(t, "not valid", b)
			}
		}
	}
}

// P4.1, P4.3: of bytes with every value at every place, just the encodings of
// valid lists are accepted, and they are encoded as they were.
func TestGetTellsEveryByteApart(t *testing.T) {
	l := []api.Schema{base(), ring(), {Kind: api.Array, Cap: 1, Words: 1, Ver: 1000}}
	for place := 1; place <= 5*len(l); place++ {
		for x := range 256 {
			b := listEncoding(l)
			b[place] = byte(x)
			s := b[1+(place-1)/5*5:][:5]
			want := slices.Clone(l)
			read := api.Schema{Kind: int(s[0]), Cap: int(s[1]), Words: int(s[2]), Ver: 256*int(s[3]) + int(s[4])}
			want[(place-1)/5] = read
			if !valid(read) {
				checkNoForm(t, "not valid", b)
				continue
			}
			got, e := schema.Get(b)
			if e != api.OK || !slices.Equal(got, want) {
				t.Errorf("Get(%v) is %+v, %d; want %+v, 0", b, got, e, want)
			}
			if again := mustPut(t, got); !bytes.Equal(again, b) {
				t.Errorf("Put(Get(%v)) is %v", b, again)
			}
		}
	}
}

// P4.1: every two bytes of Ver are accepted up to 1000, and as that number.
func TestGetOfEveryVer(t *testing.T) {
	for ver := range 1 << 16 {
		b := []byte{1, 2, 5, 2, byte(ver / 256), byte(ver % 256)}
		if ver > api.MaxVer {
			checkNoForm(t, "Ver", b)
		} else if l, e := schema.Get(b); e != api.OK || !slices.Equal(l, []api.Schema{changed(base(), 3, ver)}) {
			t.Errorf("Get(%v) is %+v, %d", b, l, e)
		}
	}
}

func checkStep(t *testing.T, name string, old, next api.Schema, want int) {
	t.Helper()
	if n := schema.Step(old, next); n != want {
		t.Errorf("%s: Step(%+v, %+v) is %d; want %d", name, old, next, n, want)
	}
}

// P4.2: steps between valid schemas, by hand.
func TestStep(t *testing.T) {
	old := api.Schema{Kind: api.Lru, Cap: 2, Words: 1, Ver: 3}
	cases := []struct {
		name string
		next api.Schema
		want int
	}{
		{"itself", old, 0},
		{"one more", api.Schema{Kind: api.Lru, Cap: 2, Words: 1, Ver: 4}, 1},
		{"one more, more keys", api.Schema{Kind: api.Lru, Cap: 16, Words: 1, Ver: 4}, 1},
		{"one more, fewer keys", api.Schema{Kind: api.Lru, Cap: 1, Words: 1, Ver: 4}, 1},
		{"one more, more words", api.Schema{Kind: api.Lru, Cap: 2, Words: 4, Ver: 4}, 1},
		{"one more, more keys and words", api.Schema{Kind: api.Lru, Cap: 9, Words: 4, Ver: 4}, 1},
		{"one more, an Array", api.Schema{Kind: api.Array, Cap: 2, Words: 1, Ver: 4}, 2},
		{"one more, a Hash", api.Schema{Kind: api.Hash, Cap: 2, Words: 1, Ver: 4}, 2},
		{"one more, a Ring", api.Schema{Kind: api.Ring, Cap: 2, Words: 1, Ver: 4}, 2},
		{"two more", api.Schema{Kind: api.Lru, Cap: 2, Words: 1, Ver: 5}, 2},
		{"one less", api.Schema{Kind: api.Lru, Cap: 2, Words: 1, Ver: 2}, 2},
		{"the first version", api.Schema{Kind: api.Lru, Cap: 2, Words: 1, Ver: 0}, 2},
		{"the last version", api.Schema{Kind: api.Lru, Cap: 2, Words: 1, Ver: 1000}, 2},
		{"another Kind", api.Schema{Kind: api.Hash, Cap: 2, Words: 1, Ver: 3}, 2},
		{"another Cap", api.Schema{Kind: api.Lru, Cap: 3, Words: 1, Ver: 3}, 2},
		{"other Words", api.Schema{Kind: api.Lru, Cap: 2, Words: 2, Ver: 3}, 2},
		{"one more, not valid by Cap", api.Schema{Kind: api.Lru, Cap: 17, Words: 1, Ver: 4}, 2},
		{"one more, not valid by Words", api.Schema{Kind: api.Lru, Cap: 2, Words: 0, Ver: 4}, 2},
	}
	for _, c := range cases {
		checkStep(t, c.name, old, c.next, c.want)
	}
}

// P4.2: each kind steps to itself, and to its next version, up to the last one.
func TestStepOfEachKind(t *testing.T) {
	for kind := range api.Maps {
		s := api.Schema{Kind: kind, Cap: 1, Words: 1}
		for ver := range api.MaxVer {
			old, next := changed(s, 3, ver), changed(s, 3, ver+1)
			checkStep(t, "itself", old, old, 0)
			checkStep(t, "one more", old, next, 1)
			checkStep(t, "one less", next, old, 2)
		}
		last := changed(s, 3, api.MaxVer)
		checkStep(t, "the last version itself", last, last, 0)
		checkStep(t, "beyond the last version", last, changed(s, 3, api.MaxVer+1), 2)
	}
}

// P4.2, P1: of and to schemas that are not valid, also to themselves, and from
// one to the next version of the same kind.
func TestStepOfInvalidSchemas(t *testing.T) {
	for _, bad := range badSchemas() {
		good := []api.Schema{base(), ring()}
		for part := range parts {
			// A valid schema that differs from the bad one in few parts, if there is one.
			for _, n := range []int{0, 1} {
				if s := changed(bad, part, n); valid(s) {
					good = append(good, s)
				}
			}
		}
		for _, s := range good {
			for _, by := range []int{-1, 0, 1} {
				later := changed(s, 3, bad.Ver+by)
				checkStep(t, "to a bad one", later, bad, 2)
				checkStep(t, "of a bad one", bad, later, 2)
			}
			checkStep(t, "to a bad one", s, bad, 2)
			checkStep(t, "of a bad one", bad, s, 2)
		}
		checkStep(t, "a bad one to itself", bad, bad, 2)
		checkStep(t, "a bad one to the next version", bad, changed(bad, 3, bad.Ver+1), 2)
	}
}

// step is the chapter's promise, sentence by sentence.
func step(old, next api.Schema) int {
	if !valid(old) || !valid(next) {
		return 2
	}
	if old.Kind != next.Kind {
		return 2
	}
	switch next.Ver - old.Ver {
	case 0:
		if old.Cap == next.Cap && old.Words == next.Words {
			return 0
		}
	case 1:
		return 1
	}
	return 2
}

// P4.2: Step agrees with the promise between all combinations of some parts.
func TestStepAgainstThePromise(t *testing.T) {
	var all []api.Schema
	for kind := -1; kind <= 4; kind++ {
		for _, keys := range []int{0, 1, 2, 16, 17} {
			for _, words := range []int{0, 1, 2, 4, 5} {
				for _, ver := range []int{-1, 0, 1, 2, 999, 1000, 1001} {
					all = append(all, api.Schema{Kind: kind, Cap: keys, Words: words, Ver: ver})
				}
			}
		}
	}
	var found [3]int
	for _, old := range all {
		for _, next := range all {
			want := step(old, next)
			found[want]++
			checkStep(t, "all pairs", old, next, want)
		}
	}
	for n, count := range found {
		if count == 0 {
			t.Errorf("no pair has the result %d", n)
		}
	}
}

// R3: no call changes a list or bytes that it is given, also beyond their
// length.
func TestArgumentsAreNotModified(t *testing.T) {
	given := append(lists(), slices.Repeat([]api.Schema{base()}, 5), badSchemas()[:3])
	for _, l := range given {
		spare := append(slices.Clone(l), ring(), ring())
		wantList := slices.Clone(spare)
		schema.Put(spare[:len(l)])
		if !slices.Equal(spare, wantList) {
			t.Errorf("Put made %+v of %+v", spare, wantList)
		}
		b := append(listEncoding(l), 7, 7)
		want := slices.Clone(b)
		schema.Get(b[:len(b)-2])
		schema.Get(b)
		if !bytes.Equal(b, want) {
			t.Errorf("Get made %v of %v", b, want)
		}
	}
}

// spoil changes every part of a list, and what is behind it.
func spoil(l []api.Schema) {
	for k := range l {
		l[k] = api.Schema{Kind: -1, Cap: -1, Words: -1, Ver: -1}
	}
	_ = append(l, api.Schema{Kind: -2})
}

// R3: later changes of a result do not reach an argument or another result, nor
// the other way round.
func TestNothingIsShared(t *testing.T) {
	for _, l := range lists() {
		want := listEncoding(l)
		given := slices.Clone(l)
		first, second := mustPut(t, given), mustPut(t, given)
		spoil(given)
		if !bytes.Equal(first, want) {
			t.Errorf("the bytes of %+v became %v", l, first)
		}
		clear(first)
		_ = append(first, 9)
		if !bytes.Equal(second, want) || !bytes.Equal(mustPut(t, l), want) {
			t.Errorf("a result of Put(%+v) changed another one", l)
		}

		b := slices.Clone(want)
		one, _ := schema.Get(b)
		two, _ := schema.Get(b)
		spoil(one)
		if !bytes.Equal(b, want) || !slices.Equal(two, l) {
			t.Errorf("a result of Get(%v) changed the bytes or another result", want)
		}
		clear(b)
		if !slices.Equal(two, l) {
			t.Errorf("the list of %v became %+v", want, two)
		}
	}
}

// R5: the same arguments yield the same results, whatever was asked between,
// and whatever stands behind a list within its capacity.
func TestResultsDependOnTheArgumentsOnly(t *testing.T) {
	spare := slices.Repeat([]api.Schema{base()}, 9)
	first := mustPut(t, spare[:2])
	for _, s := range badSchemas() {
		schema.Put([]api.Schema{s})
		schema.Get(listEncoding([]api.Schema{s}))
	}
	again := mustPut(t, []api.Schema{base(), base()})
	if !bytes.Equal(first, again) {
		t.Errorf("Put is %v, then %v", first, again)
	}
	held := append(slices.Clone(again), 1, 2, 3, 4, 5)
	if l, e := schema.Get(held[:len(again)]); e != api.OK || !slices.Equal(l, spare[:2]) {
		t.Errorf("Get is %+v, %d; want %+v, 0", l, e, spare[:2])
	}
}
