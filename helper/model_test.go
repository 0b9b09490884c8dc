package helper_test

import (
	"slices"
	"testing"

	"drydock/api"
	"drydock/helper"
	"drydock/table"
)

// mixed mixes a number, so that calls follow each other without a plain order.
func mixed(n uint32) uint32 {
	n = (n ^ n>>16) * 0x7feb352d
	n = (n ^ n>>15) * 0x846ca68b
	return n ^ n>>16
}

// model returns what the promises say of a call with the right number of
// arguments, over the functions of package table.
func model(n int, e api.Env, a []uint32) (api.Env, uint32, api.Errno) {
	e = deep(e)
	if n == api.HelpDraw {
		e.Seed = e.Seed*1664525 + 1013904223
		return e, e.Seed, api.OK
	}
	if uint64(a[0]) >= uint64(len(e.T)) {
		return e, 0, api.ErrFault
	}
	t := e.T[a[0]]
	hasField := n == api.HelpGet || n == api.HelpSet
	if !table.May(t) || !fitting[n][t.S.Kind] || hasField && uint64(a[2]) >= uint64(t.S.Words) {
		return e, 0, api.ErrFault
	}
	here := slices.ContainsFunc(t.E, func(x api.Entry) bool { return x.Key == a[1] })
	u, v := t, uint32(0)
	switch n {
	case api.HelpGet:
		u, v, _ = table.Get(t, a[1], a[2])
	case api.HelpSet:
		next, err := table.Set(t, a[1], a[2], a[3])
		if v = uint32(err); err == api.OK {
			u = next
		}
	case api.HelpPush:
		next, err := table.Push(t, a[1])
		if v = uint32(err); err == api.OK {
			u = next
		}
	case api.HelpDel:
		u, _ = table.Del(t, a[1])
		fallthrough
	case api.HelpHas:
		if here {
			v = 1
		}
	}
	e.T[a[0]] = u
	return e, v, api.OK
}

// P6.2, P6.3: with many environments of few maps, valid or not, and all chosen
// arguments each call does what the promises say.
func TestCallsAgainstTheModel(t *testing.T) {
	envs := []api.Env{{}, full(), env(badTables(api.Array)...), env(badTables(api.Hash)...), env(badTables(api.Lru)...), env(badTables(api.Ring)...)}
	for _, words := range []int{1, 2, 4} {
		envs = append(envs,
			env(filled(api.Array, 2, words, 0, 1), filled(api.Hash, 2, words), filled(api.Lru, 2, words)),
			env(filled(api.Hash, 2, words, 1), filled(api.Lru, 2, words, 1), ring(1, 0)),
			env(filled(api.Hash, 2, words, 2, 1), filled(api.Lru, 2, words, 2, 1), ring(1, 1, 0)))
	}
	some := []uint32{0, 1, 2, 3, top}
	for _, e := range envs {
		for n := range api.Helps {
			lists := [][]uint32{{}}
			for range helper.Args(n) {
				var longer [][]uint32
				for _, l := range lists {
					for _, w := range some {
						longer = append(longer, append(slices.Clone(l), w))
					}
				}
				lists = longer
			}
			for _, a := range lists {
				want, v, err := model(n, e, a)
				check(t, "model", n, e, a, want, v, err)
			}
		}
	}
}

// P6.3: through many calls, faulty ones among them, valid tables remain valid
// and keep their schemas, no table changes but the one that is named, HelpDraw
// alone changes the Seed, and the context stays.
func TestManyCalls(t *testing.T) {
	var done [api.Helps]int
	for start := range uint32(40) {
		e := full()
		e.T = append(e.T, filled(api.Hash, 2, 1), filled(api.Lru, 2, 3, 1), badTables(api.Lru)[0])
		e.Seed = start
		for step := range uint32(200) {
			r := mixed(1000*start + step)
			n := int(r % api.Helps)
			a := []uint32{r >> 4 % 9, r >> 8 % 4, r >> 12 % 4, mixed(r)}[:helper.Args(n)]
			got, _, err := helper.Call(n, e, a...)
			if err != api.OK && (err != api.ErrFault || !equal(got, e)) {
				t.Fatalf("Call(%d, %+v, %v) is %+v, %d", n, e, a, got, err)
			}
			if err == api.OK {
				done[n]++
			}
			checkKept(t, n, e, got, a)
			e = got
			if n == api.HelpPush && err == api.OK {
				e.T[a[0]], _, _ = table.Pop(e.T[a[0]])
			}
		}
	}
	for n, count := range done {
		if count < 100 {
			t.Errorf("just %d calls of helper %d were done", count, n)
		}
	}
}

func checkKept(t *testing.T, n int, e, got api.Env, a []uint32) {
	t.Helper()
	if len(got.T) != len(e.T) || got.Ctx != e.Ctx || (got.Seed != e.Seed) != (n == api.HelpDraw) {
		t.Fatalf("Call(%d, %+v, %v) is %+v", n, e, a, got)
	}
	for at := range e.T {
		if table.May(got.T[at]) != table.May(e.T[at]) || got.T[at].S != e.T[at].S {
			t.Fatalf("Call(%d, .., %v) made map %d %+v of %+v", n, a, at, got.T[at], e.T[at])
		}
		named := n != api.HelpDraw && n != api.HelpHas && uint64(a[0]) == uint64(at)
		if !named && !equalTables(got.T[at], e.T[at]) {
			t.Fatalf("Call(%d, .., %v) changed map %d from %+v to %+v", n, a, at, e.T[at], got.T[at])
		}
	}
}
