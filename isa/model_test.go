package isa_test

import (
	"testing"

	"drydock/api"
	"drydock/inst"
	"drydock/isa"
)

// codeOf is the machine code of the valid instruction i as the chapter says it.
func codeOf(i api.Inst) int {
	code := 0
	switch i.Op {
	case api.OpAlu:
		code = 2 * i.Fn
	case api.OpJump:
		code = 21 + 2*i.Fn
		if i.Fn == api.Always {
			code = 22
		}
	case api.OpCtx:
		code = 31
	case api.OpLoad:
		code = 33
	case api.OpStore:
		code = 35
	case api.OpHelp:
		code = 37
	case api.OpCall:
		code = 38
	case api.OpExit:
		code = 39
	}
	if i.Reg {
		code++
	}
	return code
}

// wordOf is the machine word of the valid instruction i with the address to, put
// together from its most significant part on.
func wordOf(i api.Inst, to int) uint64 {
	w := uint64(codeOf(i))
	w = 8*w + uint64(i.Dst)
	w = 8*w + uint64(i.Src)
	w = 1024*w + uint64(to)
	w <<= 32
	if i.Op == api.OpCall {
		return w
	}
	return w + uint64(i.Imm)
}

// encoded is what the machine word of i tells.
func encoded(i api.Inst) api.Inst {
	i.Off = 0
	if i.Op == api.OpCall {
		i.Imm = 0
	}
	return i
}

func mayHave(i api.Inst, to int) bool {
	return to == 0 || (i.Op == api.OpJump || i.Op == api.OpCall) && to > 0 && to < 1024
}

// found is an instruction and an address.
type found struct {
	i  api.Inst
	to int
}

func imms() []uint32 { return []uint32{0, 1, 0x80fe0102, top} }

// eachInst calls f with every combination of Op, Fn, Dst, Src and Reg in and
// next to their ranges, with some Off and Imm.
func eachInst(f func(api.Inst)) {
	for op := -1; op <= api.Ops; op++ {
		for fn := -1; fn <= api.Alus; fn++ {
			for dst := -1; dst <= api.Regs; dst++ {
				for src := -1; src <= api.Regs; src++ {
					for _, reg := range []bool{false, true} {
						for _, off := range []int{-1, 0, 258, 65535, 65536} {
							for _, imm := range imms() {
								f(api.Inst{Op: op, Fn: fn, Dst: dst, Src: src, Reg: reg, Off: off, Imm: imm})
							}
						}
					}
				}
			}
		}
	}
}

// P12.1, P12.3: Code, Put and Get agree with the definition on all of these.
func TestAgainstTheDefinition(t *testing.T) {
	valid := 0
	eachInst(func(i api.Inst) {
		if !inst.May(i) {
			if code, ok := isa.Code(i); code != 0 || ok {
				t.Errorf("Code(%+v) is %d, %v; want 0, false", i, code, ok)
			}
			checkRefused(t, "not valid", i, 0)
			return
		}
		valid++
		if code, ok := isa.Code(i); code != codeOf(i) || !ok {
			t.Errorf("Code(%+v) is %d, %v; want %d, true", i, code, ok, codeOf(i))
		}
		for _, to := range []int{-1, 0, 1, 513, 1023, 1024} {
			checkWord(t, i, to)
		}
	})
	// A Dst and an operand (one of 4 words or of 8 registers) are 8 * 12. An
	// OpAlu has 11 Fn, a comparing jump 4 Fn and 3 Off, three kinds have one
	// Fn; then Always with 3 Off, OpHelp and OpCall with 4 words, and OpExit.
	if want := 96*(11+4*3+3) + 3 + 4 + 4 + 1; valid != want {
		t.Errorf("%d valid instructions; want %d", valid, want)
	}
}

func checkWord(t *testing.T, i api.Inst, to int) {
	t.Helper()
	if !mayHave(i, to) {
		checkRefused(t, "no such address", i, to)
		return
	}
	w, e := isa.Put(i, to)
	if want := wordOf(i, to); w != want || e != api.OK {
		t.Errorf("Put(%+v, %d) is %#x, %d; want %#x, 0", i, to, w, e, want)
	}
	if back, at, e := isa.Get(w); back != encoded(i) || at != to || e != api.OK {
		t.Errorf("Get(%#x) is %+v, %d, %d; want %+v, %d, 0", w, back, at, e, encoded(i), to)
	}
}

// machineWords returns the machine words with one of imms and one of as many
// addresses, and what each of them encodes.
func machineWords(addresses []int) map[uint64]found {
	all := map[uint64]found{}
	eachInst(func(i api.Inst) {
		if i.Off != 0 || !inst.May(i) {
			return
		}
		for _, to := range addresses {
			if mayHave(i, to) {
				all[wordOf(i, to)] = found{encoded(i), to}
			}
		}
	})
	return all
}

// P12.2, P12.3: of the words with every machine code, Dst and Src, just the
// machine words are accepted, and they are encoded as they were.
func TestGetOfAllCodes(t *testing.T) {
	addresses := []int{0, 1, 512, 1023}
	want := machineWords(addresses)
	accepted := 0
	for code := range uint64(api.Codes) {
		for registers := range uint64(64) {
			for _, to := range addresses {
				for _, imm := range imms() {
					w := code<<48 | registers<<42 | uint64(to)<<32 | uint64(imm)
					if checkGet(t, w, want) {
						accepted++
					}
				}
			}
		}
	}
	if accepted != len(want) {
		t.Errorf("%d words are accepted; want %d", accepted, len(want))
	}
}

// P12.2: upper 16 bits that are no machine code are refused, whatever follows.
func TestGetOfAllHeads(t *testing.T) {
	for head := uint64(api.Codes); head < 1<<16; head++ {
		checkNoWord(t, "no machine code", head<<48)
		checkNoWord(t, "no machine code", head<<48|7<<45)
		checkNoWord(t, "no machine code", head<<48|5<<32)
		checkNoWord(t, "no machine code", head<<48|1)
		checkNoWord(t, "no machine code", head<<48|(1<<48-1))
	}
}

// checkGet reports whether Get accepts w, which it has to if w is in want.
func checkGet(t *testing.T, w uint64, want map[uint64]found) bool {
	t.Helper()
	x, ok := want[w]
	if !ok {
		checkNoWord(t, "not a machine word", w)
		return false
	}
	i, to, e := isa.Get(w)
	if i != x.i || to != x.to || e != api.OK {
		t.Errorf("Get(%#x) is %+v, %d, %d; want %+v, %d, 0", w, i, to, e, x.i, x.to)
	}
	if again, e := isa.Put(i, to); again != w || e != api.OK {
		t.Errorf("Put(Get(%#x)) is %#x, %d", w, again, e)
	}
	return true
}

// P12.2: every address of every machine code is accepted for a jump or a call,
// and none but 0 for the others.
func TestGetOfAllAddresses(t *testing.T) {
	addresses := []int{}
	for to := range 1024 {
		addresses = append(addresses, to)
	}
	want := map[uint64]found{}
	for _, s := range samples() {
		for _, to := range addresses {
			if mayHave(s.i, to) {
				want[wordOf(s.i, to)] = found{encoded(s.i), to}
			}
		}
	}
	for _, s := range samples() {
		for _, to := range addresses {
			checkGet(t, wordOf(s.i, 0)|uint64(to)<<32, want)
		}
	}
}

// P12.2, P12.3: a word that differs from a machine word in one or two bits is
// none, or encodes something else and is encoded as it was.
func TestOtherBits(t *testing.T) {
	for _, s := range samples() {
		for a := range 64 {
			for b := range 64 {
				w := s.w ^ 1<<a ^ 1<<b
				i, to, e := isa.Get(w)
				if e != api.OK {
					checkNoWord(t, s.name, w)
					continue
				}
				if w != s.w && i == s.back && to == s.to {
					t.Errorf("%s: %#x and %#x both encode %+v, %d", s.name, w, s.w, i, to)
				}
				if again, f := isa.Put(i, to); again != w || f != api.OK {
					t.Errorf("%s: Put(Get(%#x)) is %#x, %d", s.name, w, again, f)
				}
			}
		}
	}
}

// P12.2, P12.3: every word with a machine code either is encoded as it was, with
// an instruction that is valid, or yields nothing.
func TestDrawnWords(t *testing.T) {
	draw := uint64(1)
	met := [api.Codes]bool{}
	for range 2_000_000 {
		draw = draw*6364136223846793005 + 1442695040888963407
		w := sparse(draw)
		i, to, e := isa.Get(w)
		if e != api.OK {
			checkNoWord(t, "drawn", w)
			continue
		}
		if !inst.May(i) || !mayHave(i, to) || wordOf(i, to) != w || encoded(i) != i {
			t.Errorf("Get(%#x) is %+v, %d", w, i, to)
		}
		if again, e := isa.Put(i, to); again != w || e != api.OK {
			t.Errorf("Put(Get(%#x)) is %#x, %d", w, again, e)
		}
		met[w>>48] = true
	}
	for code, ok := range met {
		if !ok {
			t.Errorf("no drawn word has the machine code %d", code)
		}
	}
}

// sparse returns a word with a machine code that often there is, and with parts
// that are often 0, as those of machine words are.
func sparse(draw uint64) uint64 {
	code := draw >> 56 % 42
	parts := []struct{ at, bits uint64 }{{0, 32}, {32, 10}, {42, 3}, {45, 3}}
	w := code << 48
	for k, p := range parts {
		if draw>>(52+k)&1 == 1 {
			w |= draw >> 13 % (1 << p.bits) << p.at
		}
	}
	return w
}
