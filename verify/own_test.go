package verify_test

import (
	"fmt"
	"reflect"
	"slices"
	"testing"

	"drydock/api"
	"drydock/verify"
)

// spare returns l with room behind it, filled with what must not change either.
func spare[T any](l []T, more T) []T {
	return append(slices.Clone(l), more, more)[:len(l)]
}

// whole returns what l holds, also behind its end.
func whole[T any](l []T) []T { return slices.Clone(l[:cap(l)]) }

// samples are programs that are accepted, that may fail, and that are not valid.
func samples() []api.Prog {
	l := []api.Prog{
		{}, alone(five()...), alone(failing()...), costing(2000), costing(2001), greatest(),
		program(fn(0, mov(1, 0), mov(2, 9), help(api.HelpHas), mov(1, 3), call(1), exit()), fn(2, by(1, mov(0, 0)), by(2, jump(api.Lt, 0, 0, 1)), mov(0, 2), exit())),
		program(fn(0, mov(1, 2), mov(2, 9), call(1), exit()), fn(2, by(1, mov(0, 0)), by(2, jump(api.Lt, 0, 0, 1)), mov(0, 2), exit())),
		alone(mov(0, 5), jump(api.Eq, 0, 6, 7), exit()),
	}
	for _, p := range wrongPrograms() {
		l = append(l, p)
	}
	return l
}

// R3: no call modifies a program or schemas.
func TestArgumentsStay(t *testing.T) {
	for _, p := range samples() {
		p.Fns = spare(p.Fns, fn(3, mov(3, 3)))
		for k, f := range p.Fns {
			p.Fns[k].Code = spare(f.Code, mov(7, 77))
		}
		before, codes := whole(p.Fns), [][]api.Inst{}
		for _, f := range p.Fns {
			codes = append(codes, whole(f.Code))
		}
		for _, l := range append(wrongMaps(), nil, maps(), maps()[:1]) {
			l = spare(l, api.Schema{Cap: 99})
			schemas := whole(l)
			for n := -1; n <= min(len(p.Fns), api.MaxFns); n++ {
				verify.Shapes(p, n, l)
			}
			verify.Verify(p, l)
			if !slices.Equal(whole(l), schemas) {
				t.Errorf("the schemas became %+v; they were %+v", whole(l), schemas)
			}
		}
		if !reflect.DeepEqual(whole(p.Fns), before) {
			t.Errorf("the program became %+v; it was %+v", whole(p.Fns), before)
		}
		for k, f := range p.Fns {
			if !slices.Equal(whole(f.Code), codes[k]) {
				t.Errorf("the code became %+v; it was %+v", whole(f.Code), codes[k])
			}
		}
	}
}

// spoil changes a result, also behind its end.
func spoil[T any](l []T, x T) {
	l = l[:cap(l)]
	for k := range l {
		l[k] = x
	}
}

// R3: later calls, and later changes to a result, affect no other result.
func TestResultsAreApart(t *testing.T) {
	for _, p := range samples() {
		for n := range min(len(p.Fns), api.MaxFns) {
			first, isFirst, _ := verify.Shapes(p, n, maps())
			want, isWant := slices.Clone(first), slices.Clone(isFirst)
			second, isSecond, _ := verify.Shapes(p, n, maps())
			spoil(second, with(api.Shape{}, 5, 1i))
			spoil(isSecond, len(isWant)%2 == 0)
			if !slices.Equal(first, want) || !slices.Equal(isFirst, isWant) {
				t.Errorf("the first result became %v, %v; it was %v, %v", first, isFirst, want, isWant)
			}
			spoil(first, with(api.Shape{}, 6, 1i))
			third, isThird, _ := verify.Shapes(p, n, maps())
			if !slices.Equal(third, want) || !slices.Equal(isThird, isWant) {
				t.Errorf("another result is %v, %v; want %v, %v", third, isThird, want, isWant)
			}
		}
	}
}

// R3: changes to the arguments behind a call do not affect its result.
func TestResultsStay(t *testing.T) {
	p, l := samples()[6], maps()
	s, known, e := verify.Shapes(p, 1, l)
	if e != api.OK {
		t.Fatalf("Shapes is %d", e)
	}
	want := fmt.Sprint(s, known)
	spoil(p.Fns[1].Code, exit())
	spoil(p.Fns, api.Fn{})
	spoil(l, api.Schema{})
	if got := fmt.Sprint(s, known); got != want {
		t.Errorf("the result became %s; it was %s", got, want)
	}
}

// R5: a result depends on the arguments alone, whatever was asked before.
func TestResultsAreTheSame(t *testing.T) {
	var first []string
	for round := range 3 {
		for k, p := range samples()[:9] {
			n, e := verify.Verify(p, maps())
			got := fmt.Sprint(n, e)
			for fn := range p.Fns {
				s, known, e := verify.Shapes(p, fn, maps())
				got += fmt.Sprint(s, known, e)
			}
			if round == 0 {
				first = append(first, got)
			} else if got != first[k] {
				t.Errorf("sample %d: %s; it was %s", k, got, first[k])
			}
		}
	}
}

// R1: Shapes and Verify return for instructions with any parts.
func TestAnyParts(t *testing.T) {
	d := dice(5)
	parts := append(strange(), 0, 1, 2, 3, 4, 5, 6, 7, 10, 11, 65535, 65536)
	part := func() int { return parts[d.below(len(parts))] }
	for range 5000 {
		p := api.Prog{Fns: make([]api.Fn, d.below(4))}
		for n := range p.Fns {
			if d.rarely(3) {
				p.Fns[n].Args = part()
			}
			p.Fns[n].Code = make([]api.Inst, d.below(4))
			for k := range p.Fns[n].Code {
				p.Fns[n].Code[k] = api.Inst{Op: part(), Fn: part(), Dst: part(), Src: part(), Reg: d.rarely(2), Off: part(), Imm: d.word()}
			}
		}
		l := make([]api.Schema, d.below(6))
		for k := range l {
			l[k] = api.Schema{Kind: part(), Cap: part(), Words: part(), Ver: part()}
		}
		s, known, e := verify.Shapes(p, part(), l)
		if e != api.OK && (len(s) > 0 || len(known) > 0) {
			t.Errorf("%v and %v beside error %d", s, known, e)
		}
		if n, e := verify.Verify(p, l); e != api.OK && n != 0 {
			t.Errorf("%d beside error %d", n, e)
		}
	}
}
