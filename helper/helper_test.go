package helper_test

import (
	"math"
	"slices"
	"testing"

	"drydock/api"
	"drydock/helper"
)

const top = math.MaxUint32 // the greatest word

// noHelpers are numbers of no helper: just beyond them, far beyond them, and
// such that a helper's number is left of their lower bits.
func noHelpers() []int {
	l := []int{-1, -2, api.Helps, api.Helps + 1, 255, 1<<31 - 1, 1 << 31, math.MinInt, math.MaxInt}
	for n := range api.Helps {
		l = append(l, n+256, n+1<<16, n+1<<32, n-1<<32, n-api.Helps, math.MinInt+n)
	}
	return l
}

// P6.1: each helper has its number of arguments, and any other number -1.
func TestArgs(t *testing.T) {
	for n, want := range map[int]int{
		api.HelpGet: 3, api.HelpSet: 4, api.HelpDel: 2, api.HelpHas: 2, api.HelpDraw: 0, api.HelpPush: 2,
	} {
		if got := helper.Args(n); got != want {
			t.Errorf("Args(%d) is %d; want %d", n, got, want)
		}
	}
	for _, n := range noHelpers() {
		if got := helper.Args(n); got != -1 {
			t.Errorf("Args(%d) is %d; want -1", n, got)
		}
	}
}

// goodSchemas are valid schemas of one Kind, at the limits of all other parts.
func goodSchemas(kind int) []api.Schema {
	var l []api.Schema
	for _, keys := range []int{1, 2, api.MaxKeys} {
		for _, words := range []int{1, 2, api.MaxWords} {
			for _, ver := range []int{0, 1, api.MaxVer} {
				if kind != api.Ring || words == 1 {
					l = append(l, api.Schema{Kind: kind, Cap: keys, Words: words, Ver: ver})
				}
			}
		}
	}
	return l
}

// badSchemas are schemas of one Kind of which one part alone is not valid, and
// the same ones with Kinds that there are not.
func badSchemas(kind int) []api.Schema {
	l := []api.Schema{{Kind: kind}}
	for _, keys := range []int{math.MinInt, -1, 0, api.MaxKeys + 1, 1<<32 + 1, math.MaxInt} {
		l = append(l, api.Schema{Kind: kind, Cap: keys, Words: 1})
	}
	for _, words := range []int{math.MinInt, -1, 0, api.MaxWords + 1, 1<<32 + 1, math.MaxInt} {
		l = append(l, api.Schema{Kind: kind, Cap: 1, Words: words})
	}
	for _, ver := range []int{math.MinInt, -1, api.MaxVer + 1, 1 << 32, math.MaxInt} {
		l = append(l, api.Schema{Kind: kind, Cap: 1, Words: 1, Ver: ver})
	}
	for _, other := range []int{kind - 1<<32, kind + 1<<32, kind + api.Maps, kind - api.Maps, -1, math.MinInt, math.MaxInt} {
		l = append(l, api.Schema{Kind: other, Cap: 1, Words: 1})
	}
	if kind == api.Ring {
		l = append(l, api.Schema{Kind: kind, Cap: 1, Words: 2}, api.Schema{Kind: kind, Cap: 1, Words: api.MaxWords})
	}
	return l
}

// fitting tells which helpers can be applied to which Kinds, as the chapter
// says it.
var fitting = [api.Helps][api.Maps]bool{
	api.HelpGet:  {api.Array: true, api.Hash: true, api.Lru: true},
	api.HelpSet:  {api.Array: true, api.Hash: true, api.Lru: true},
	api.HelpDel:  {api.Array: true, api.Hash: true, api.Lru: true},
	api.HelpHas:  {api.Array: true, api.Hash: true, api.Lru: true},
	api.HelpPush: {api.Ring: true},
}

// P6.1: a helper fits valid schemas of its Kinds, and no others; HelpDraw and
// what is no helper fit none.
func TestFits(t *testing.T) {
	for kind := range api.Maps {
		for _, s := range goodSchemas(kind) {
			for n := range api.Helps {
				if got := helper.Fits(n, s); got != fitting[n][kind] {
					t.Errorf("Fits(%d, %+v) is %v", n, s, got)
				}
			}
			for _, n := range noHelpers() {
				if helper.Fits(n, s) {
					t.Errorf("Fits(%d, %+v) is true", n, s)
				}
			}
		}
		for _, s := range badSchemas(kind) {
			for _, n := range append(noHelpers(), api.HelpGet, api.HelpSet, api.HelpDel, api.HelpHas, api.HelpDraw, api.HelpPush) {
				if helper.Fits(n, s) {
					t.Errorf("Fits(%d, %+v) is true", n, s)
				}
			}
		}
	}
}

// P6.1: Draw at the ends of the words, and next to where the sum and the
// product pass 2^32 first.
func TestDraw(t *testing.T) {
	for _, c := range []struct{ seed, want uint32 }{
		{0, 1013904223},
		{1, 1015568748},
		{1971, 4294682998},
		{1972, 1380227},
		{2580, 1013411427},
		{2581, 1015075952},
		{1 << 31, 3161387871},
		{top, 1012239698},
	} {
		if got := helper.Draw(c.seed); got != c.want {
			t.Errorf("Draw(%d) is %d; want %d", c.seed, got, c.want)
		}
	}
}

// P6.1: Draw is what the promise says in numbers of 64 bits, which hold the
// product whole.
func TestDrawAgainstWiderNumbers(t *testing.T) {
	seeds := []uint32{0, 1, top, top - 1, 1 << 31, 1<<31 - 1}
	for k := range uint32(100000) {
		seeds = append(seeds, k, k*42949, top-k)
	}
	for _, seed := range seeds {
		want := (1664525*uint64(seed) + 1013904223) % (1 << 32)
		if got := helper.Draw(seed); uint64(got) != want {
			t.Fatalf("Draw(%d) is %d; want %d", seed, got, want)
		}
	}
}

func entry(key uint32, v ...uint32) api.Entry { return api.Entry{Key: key, V: v} }

// filled returns a table with values of its own for the given keys, valid if
// the keys are: another word for each key and field, and never 0.
func filled(kind, room, words int, l ...uint32) api.Table {
	t := api.Table{S: api.Schema{Kind: kind, Cap: room, Words: words, Ver: 3}}
	for _, key := range l {
		v := make([]uint32, words)
		for field := range v {
			v[field] = word(key, uint32(field))
		}
		t.E = append(t.E, api.Entry{Key: key, V: v})
	}
	return t
}

// word is what filled tables hold.
func word(key, field uint32) uint32 { return 100*(key%1000003) + field + 7 }

// ring returns a Ring with the given keys, which count up, and the key behind
// them as Next.
func ring(room int, next uint32, l ...uint32) api.Table {
	t := filled(api.Ring, room, 1, l...)
	t.Next = next
	return t
}

func env(l ...api.Table) api.Env {
	return api.Env{Ctx: [api.CtxWords]uint32{11, 12, 13, 14}, T: l, Seed: 99}
}

// with returns e with another table at the given index.
func with(e api.Env, at int, t api.Table) api.Env {
	f := deep(e)
	f.T[at] = t
	return f
}

// deep returns a copy of e that shares nothing with it.
func deep(e api.Env) api.Env {
	f := e
	f.T = nil
	for _, t := range e.T {
		u := t
		u.E = nil
		for _, x := range t.E {
			u.E = append(u.E, api.Entry{Key: x.Key, V: append([]uint32(nil), x.V...)})
		}
		f.T = append(f.T, u)
	}
	return f
}

// equal compares environments part by part.
func equal(e, f api.Env) bool {
	return e.Ctx == f.Ctx && e.Seed == f.Seed && slices.EqualFunc(e.T, f.T, equalTables)
}

func equalTables(t, u api.Table) bool {
	return t.S == u.S && t.Next == u.Next && slices.EqualFunc(t.E, u.E, func(a, b api.Entry) bool {
		return a.Key == b.Key && slices.Equal(a.V, b.V)
	})
}

// checkDone checks that a call returns the environment want, v and OK.
func checkDone(t *testing.T, name string, n int, e api.Env, a []uint32, want api.Env, v uint32) {
	t.Helper()
	check(t, name, n, e, a, want, v, api.OK)
}

// checkFault checks that a call returns e itself, 0 and ErrFault.
func checkFault(t *testing.T, name string, n int, e api.Env, a ...uint32) {
	t.Helper()
	check(t, name, n, e, a, e, 0, api.ErrFault)
}

// checkArg checks that a call returns zero values and ErrArg.
func checkArg(t *testing.T, name string, n int, e api.Env, a ...uint32) {
	t.Helper()
	check(t, name, n, e, a, api.Env{}, 0, api.ErrArg)
}

// check makes a call with a copy of e, so that want may share memory with e.
func check(t *testing.T, name string, n int, e api.Env, a []uint32, want api.Env, v uint32, err api.Errno) {
	t.Helper()
	got, w, f := helper.Call(n, deep(e), a...)
	if w != v || f != err {
		t.Errorf("%s: Call(%d, .., %v) is %d, %d; want %d, %d", name, n, a, w, f, v, err)
	}
	if !equal(got, want) {
		t.Errorf("%s: Call(%d, .., %v) makes %+v of %+v; want %+v", name, n, a, got, e, want)
	}
}
