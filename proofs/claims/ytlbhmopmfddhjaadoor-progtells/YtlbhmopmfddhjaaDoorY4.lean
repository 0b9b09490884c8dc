/-
  What package prog's Put returns, as contracts over the translated program: a valid program's bytes, or ErrArg.
-/
import Derived.Test.YtlbhmopmfddhjaaDoorY1
import Derived.Test.YtlbhmopmfddhjaaDoorY3
namespace Go.Proofs.YtlbhmopmfddhjaaDoor
open Go.RowKit

theorem prPut_no (a : Option Addr) (len cap : Nat) (fs : List Fun) (w : World) (hR : RowsIn w) (h : FnsAt w a len cap fs) (hM : mayP fs = false) :
    Calls Tryd.prog 12 #[.agg #[.slice a len cap]] w fun e w' => e = .returned (.tuple #[.slice none 0 0, .int .i64 1]) ∧ Below w.heap.size w w' := by
  have hg : Below w.heap.size w (w.alloc (.cells #[.slice a len cap] 24)) := (Below.refl _ _).alloc (Nat.le_refl _) _
  have HF := Lib.hid (h.below hg)
  have hR1 := hR.later hg
  clear h
  go_enter Tryd.func12, Tryd.ntmps12
  go_wp2_with fail
  refine (prMay_any a len cap fs _ hR1 HF.out).mono ?_
  rintro e w' ⟨rfl, hg2⟩
  replace hg := hg.trans (hg2.mono hg.size)
  clear hg2
  go_wp2
  go_ret2
  exact ⟨rfl, hg⟩

theorem wrote_below {w w' : World} {base : Nat} {v v' : Value} {zs : List Int} {W : World} {n : Nat} {xs : List Value} (h : WroteAt w base v v' zs w') (ho : w.ownsRow base 5 1 v n xs) (hb : Below base W w) (hB : base ≤ w.heap.size) : Below base W w' :=
  hb.grown h.2.1 hB (fun k hk => (ho.lt k hk).1)
theorem Wrote.at_ {w w' : World} {base : Nat} {v : Value} {zs : List Int} {e : Ending} (h : Wrote w base v zs e w') : ∃ v', e = .returned v' ∧ WroteAt w base v v' zs w' := h
theorem box2 {B : Nat} {W w : World} (h : Below B W w) (hB : B ≤ w.heap.size) (o o' : Obj) : Below B W ((w.alloc o).alloc o') := (h.alloc hB o).alloc (by simp; omega) o'

theorem write_nums (base : Nat) (v : Value) (zs : List Int) (B : Nat) (p q : Int) (w : World) (hR : RowsIn w) (hB0 : 0 < base) (hB : base ≤ w.heap.size) (hown : w.ownsRow base 5 1 v zs.length (bytesV zs))
    (c0 : w.cell? ⟨B, 0, none⟩ = some (.iface 3 (.int .i64 p))) (c1 : w.cell? ⟨B, 1, none⟩ = some (.iface 3 (.int .i64 q))) (hp : 0 ≤ p ∧ p ≤ 255) (hq : 0 ≤ q ∧ q ≤ 255) (hne : some B ≠ v.ownBlock) (hz : zs.length ≤ 5000) :
    Calls Tryd.prog 23 #[v, .slice (some ⟨B, 0, none⟩) 2 2] w (Wrote w base v (zs ++ [p, q])) := by
  refine (write_any base v zs ⟨B, 0, none⟩ [.num p, .num q] 2 2 w hR hB0 hB hown rfl ?_ ?_ ?_ hne (by omega) hz)
  · intro k hk
    match k, hk with
    | 0, _ => rw [addr_add]; exact c0
    | 1, _ => rw [addr_add]; exact c1
  · intro k hk
    match k, hk with
    | 0, _ => exact hp
    | 1, _ => exact hq
  · intro k hk
    match k, hk with
    | 0, _ => intro h; cases h
    | 1, _ => intro h; cases h
theorem write_ins (base : Nat) (v : Value) (zs : List Int) (B : Nat) (o f d s : Int) (r : Bool) (x m : Int) (w : World) (hR : RowsIn w) (hB0 : 0 < base) (hB : base ≤ w.heap.size) (hown : w.ownsRow base 5 1 v zs.length (bytesV zs))
    (c0 : w.cell? ⟨B, 0, none⟩ = some (.iface 46 (instV o f d s r x m))) (hM : mayB o f d s r x m = true) (h0 : 0 ≤ m) (hm : m ≤ 4294967295) (hne : some B ≠ v.ownBlock) (hz : zs.length ≤ 5000) :
    Calls Tryd.prog 23 #[v, .slice (some ⟨B, 0, none⟩) 1 1] w (Wrote w base v (zs ++ encL o f d s r x m)) := by
  have e : encPs [.ins o f d s r x m] = encL o f d s r x m := by simp [encPs, Part.enc]
  rw [← e]
  refine (write_any base v zs ⟨B, 0, none⟩ [.ins o f d s r x m] 1 1 w hR hB0 hB hown rfl ?_ ?_ ?_ hne (by omega) hz)
  · intro k hk
    match k, hk with
    | 0, _ => rw [addr_add]; exact c0
  · intro k hk
    match k, hk with
    | 0, _ => exact ⟨hM, h0, hm⟩
  · intro k hk
    match k, hk with
    | 0, _ => intro h; cases h

/- the bytes that are written of function k's first t instructions -/
def midB (fs : List Fun) (k : Nat) (args : Int) (code : List I) (t : Nat) : List Int := headB fs k ++ [args, (code.length : Int)] ++ encC (code.take t)
theorem midB_end {fs : List Fun} {k : Nat} {args : Int} {code : List I} {t : Nat} (hk : k < fs.length) (h : fs.getD k zeroF = (args, code)) (ht : code.length ≤ t) : midB fs k args code t = headB fs (k + 1) := by
  rw [midB, headB_step hk h, List.take_of_length_le ht, List.append_assoc]
theorem midB_step (fs : List Fun) (k : Nat) (args : Int) (code : List I) (t : Nat) (ht : t < code.length) : midB fs k args code (t + 1) = midB fs k args code t ++ encI (code.getD t zeroI) := by
  rw [midB, midB, encC_take code t ht, List.append_assoc, List.append_assoc, List.append_assoc]
theorem midB_len {fs : List Fun} (h : mayP fs = true) {k : Nat} (hk : k ≤ fs.length) (args : Int) (code : List I) (t : Nat) (hc : code.length ≤ 64) : (midB fs k args code t).length ≤ 5000 := by
  have h1 := headB_len h k hk
  have h2 := encC_len (code.take t)
  simp only [midB, List.length_append, List.length_cons, List.length_nil, List.length_take] at h2 ⊢
  omega
def PutPost (fs : List Fun) (w : World) (e : Ending) (w' : World) : Prop :=
  ∃ g cp, e = .returned (.tuple #[.slice (some ⟨g, 0, none⟩) (encP fs).length cp, .int .i64 0]) ∧ Below w.heap.size w w' ∧ w.heap.size ≤ g ∧ (encP fs).length ≤ cp ∧ cp ≤ maxLen ∧ BytesAt w' ⟨g, 0, none⟩ (encP fs)

set_option maxRecDepth 100000 in
set_option maxHeartbeats 8000000 in
theorem prPut_yes (a : Option Addr) (len cap : Nat) (fs : List Fun) (w : World) (hR : RowsIn w) (h : FnsAt w a len cap fs) (hM : mayP fs = true) :
    Calls Tryd.prog 12 #[.agg #[.slice a len cap]] w (PutPost fs w) := by
  have hg : Below w.heap.size w (w.alloc (.cells #[.slice a len cap] 24)) := (Below.refl _ _).alloc (Nat.le_refl _) _
  have HF := Lib.hid (h.below hg)
  have hR1 := hR.later hg
  have hpos := hR.pos
  have hlen := mayP_len hM
  have h1 : fs.length = len := h.1
  rw [h1] at hlen
  have H1 := Lib.hid h1
  obtain ⟨y, rfl, hy⟩ := h.2.2.2.resolve_left (by omega)
  have HY := Lib.hid hy
  have HM := Lib.hid hM
  clear h h1 hy
  go_enter Tryd.func12, Tryd.ntmps12
  go_wp2_with fail
  refine (prMay_any _ len cap fs _ hR1 HF.out).mono ?_
  rintro e w1 ⟨rfl, hg1⟩
  have c0 : w1.cell? ⟨w.heap.size, 0, none⟩ = some (.slice (some y) len cap) := (hg1.cell (by simp)).trans (by simp)
  replace hg := hg.trans (hg1.mono hg.size)
  have hlt1 : w.heap.size < w1.heap.size := lt_of_cell c0
  clear hg1 HF hR1
  go_wp2_with fail
  have hg2 : Below w.heap.size w (w1.alloc (.cells #[.iface 9 (.string ⟨#[88, 86]⟩), .iface 3 (.int .i64 len)] 20)) := hg.alloc hg.size _
  have hR2 := hR.later hg2
  refine (write_any w.heap.size (.slice none 0 0) [] ⟨w1.heap.size, 0, none⟩ [.mark, .num len] 2 2 _ hR2 hpos hg2.size (World.ownsRow_nil _ _ _ _) rfl ?_ ?_ ?_ ?_ (by omega) (by simp)).mono ?_
  · intro k hk
    match k, hk with
    | 0, _ => rw [addr_add]; simp [Part.val]
    | 1, _ => rw [addr_add]; simp [Part.val]
  · intro k hk
    match k, hk with
    | 0, _ => exact trivial
    | 1, _ => exact ⟨by omega, by omega⟩
  · intro k hk
    match k, hk with
    | 0, _ => exact fun _ => ⟨rfl, rfl, rfl⟩
    | 1, _ => intro h; cases h
  · simp [Value.ownBlock]
  rintro e w2 hW0
  obtain ⟨v2, rfl, hW⟩ := hW0.at_
  clear hW0
  have hE0 : [] ++ encPs [.mark, .num (len : Int)] = headB fs 0 := by simp [encPs, Part.enc, headB, encFs, H1.out]
  rw [hE0] at hW
  have hb2 := wrote_below hW (World.ownsRow_nil _ _ _ _ : World.ownsRow _ w.heap.size 5 1 (.slice none 0 0) 0 []) hg2 hg2.size
  have c2 : w2.cell? ⟨w.heap.size, 0, none⟩ = some (.slice (some y) len cap) := (hW.2.1.cell_far ⟨w.heap.size, 0, none⟩ (by simp; omega) (by simp [Value.ownBlock])).trans (((Below.refl (w.heap.size + 1) w1).alloc (by omega) _).cell (p := ⟨w.heap.size, 0, none⟩) (by simp) |>.trans c0)
  have HO := Lib.hid hW.1
  clear c0 hlt1 hg hg2 hR2 hW hE0 hM
  have hlen8 := hlen.2
  have hlen1 := hlen.1
  clear hlen
  go_wp2_with fail
  clear c2
  go_loopw [4, 22] (fun v i wr => ∃ k : Nat, k ≤ len ∧ i = .int .i64 k ∧ Hid (wr.ownsRow w.heap.size 5 1 v (headB fs k).length (bytesV (headB fs k))) ∧ Below w.heap.size w wr) (fun _ i _ => len - (intOf i).toNat)
  case atStart => exact ⟨0, by omega, rfl, HO, hb2⟩
  case round =>
    obtain ⟨k, hk, rfl, HOk, hb⟩ := hrel
    clear HO hb2
    have hpw := hb.size
    by_cases hkl : k < len
    · have hkI : (k : Int) < (len : Int) := by omega
      have hI := HY.out k hkl
      rcases hi : fs.getD k zeroF with ⟨args, code⟩
      rw [hi] at hI
      have HI := Lib.hid hi
      have HB := Lib.hid (fnB_facts (mayP_fn HM.out k (by rw [H1.out]; exact hkl)))
      rw [hi] at HB
      obtain ⟨iw0, b, l, cc, iw1, hCode⟩ := hI
      simp only at iw0 iw1 hCode
      have i0 := (hb.cell (lt_of_cell iw0)).trans iw0
      have i1 := (hb.cell (lt_of_cell iw1)).trans iw1
      have HCo := Lib.hid hCode
      have hl : code.length = l := hCode.1
      have hl64 : l ≤ 64 := by rw [← hl]; exact (codeB_len HB.out.1).2
      have ha0 : 0 ≤ args := HB.out.2.1
      have ha4 : args ≤ 4 := HB.out.2.2.1
      have HL := Lib.hid hl
      have hn4 := headB_len HM.out k (by rw [H1.out]; omega)
      have HN := Lib.hid hn4
      have hvlt := fun g (hg : u4.ownBlock = some g) => (HOk.out.lt g hg).2
      have HV := Lib.hid hvlt
      clear hi hl hCode iw0 iw1 hvlt hn4
      go_wp2_with fail
      have hb2 : Below w.heap.size w ((wr.alloc (.cells #[.int .i64 args, .slice b l cc] 28)).alloc (.cells #[.iface 3 (.int .i64 args), .iface 3 (.int .i64 l)] 20)) := box2 hb hpw _ _
      have hRr := hR.later hb2
      have hownr := (HOk.out.alloc (.cells #[.int .i64 args, .slice b l cc] 28)).alloc (.cells #[.iface 3 (.int .i64 args), .iface 3 (.int .i64 l)] 20)
      refine (write_nums w.heap.size u4 (headB fs k) (wr.heap.size + 1) args l _ hRr hpos hb2.size hownr (by simp) (by simp) (by omega) (by omega) (fun e => by have := HV.out _ e.symm; omega) (by have := HN.out; omega)).mono ?_
      rintro e w3 hW0
      obtain ⟨v3, rfl, hW⟩ := hW0.at_
      have hb3 := wrote_below hW hownr hb2 hb2.size
      have c1 : w3.cell? ⟨wr.heap.size, 1, none⟩ = some (.slice b l cc) := (hW.2.1.cell_far ⟨wr.heap.size, 1, none⟩ (by simp; omega) (fun e => by have := HV.out _ e.symm; simp at this)).trans (by simp)
      have hM0 : midB fs k args code 0 = headB fs k ++ [args, (l : Int)] := by simp [midB, encC, HL.out]
      rw [← hM0] at hW
      have HO3 := Lib.hid hW.1
      clear hW hW0 hM0 hb2 hRr hownr hb i0 i1 HOk HV
      go_wp2_with fail
      clear c1
      go_loopw [4, 39] (fun v i wr => ∃ t : Nat, t ≤ l ∧ i = .int .i64 t ∧ Hid (wr.ownsRow w.heap.size 5 1 v (midB fs k args code t).length (bytesV (midB fs k args code t))) ∧ Below w.heap.size w wr) (fun _ i _ => l - (intOf i).toNat)
      case atStart => exact ⟨0, by omega, rfl, HO3, hb3⟩
      case round =>
        obtain ⟨t, ht, rfl, HOt, hb⟩ := hrel
        clear HO3 hb3 hpw
        have hpw := hb.size
        by_cases htl : t < l
        · have htI : (t : Int) < (l : Int) := by omega
          obtain ⟨e1, e2, e3, e4, e5⟩ := HCo.out
          obtain ⟨z, rfl, hz⟩ := e5.resolve_left (by omega)
          have hA := InstHere.below (hz t htl) hb
          have hok := e4 _ (getD_mem code t zeroI (by rw [HL.out]; exact htl))
          have hmay := codeB_may HB.out.1 t (by rw [HL.out]; exact htl)
          rcases hi : code.getD t zeroI with ⟨o, f, d, s, r, xx, m⟩
          rw [hi] at hA hok hmay
          have HI2 := Lib.hid hi
          obtain ⟨v0, v1, v2', v3', v4, v5, v6⟩ := hA
          obtain ⟨hok1, hok2⟩ := hok
          simp only at v0 v1 v2' v3' v4 v5 v6 hok1 hok2
          have hmay' : mayB o f d s r xx m = true := hmay
          have HMay := Lib.hid hmay'
          have HNt := Lib.hid (midB_len HM.out (k := k) (by rw [H1.out]; omega) args code t (by rw [HL.out]; exact hl64))
          have HVt := Lib.hid (fun g (hg : u4.ownBlock = some g) => (HOt.out.lt g hg).2)
          have HST : Hid (midB fs k args code (t + 1) = midB fs k args code t ++ encL o f d s r xx m) := Lib.hid (by
            rw [midB_step fs k args code t (by rw [HL.out]; exact htl), HI2.out]
            rfl)
          clear hi hz e1 e2 e3 e4 hmay hmay'
          go_wp2_with fail
          have hb2 : Below w.heap.size w ((wr.alloc (.cells #[.int .i64 o, .int .i64 f, .int .i64 d, .int .i64 s, .bool r, .int .i64 xx, .int .u32 m] 46)).alloc (.cells #[.iface 46 (instV o f d s r xx m)] 20)) := box2 hb hpw _ _
          have hRr := hR.later hb2
          have hownr := (HOt.out.alloc (.cells #[.int .i64 o, .int .i64 f, .int .i64 d, .int .i64 s, .bool r, .int .i64 xx, .int .u32 m] 46)).alloc (.cells #[.iface 46 (instV o f d s r xx m)] 20)
          refine (write_ins w.heap.size u4 (midB fs k args code t) (wr.heap.size + 1) o f d s r xx m _ hRr hpos hb2.size hownr (by simp) HMay.out hok1 hok2 (fun e => by have := HVt.out _ e.symm; omega) HNt.out).mono ?_
          rintro e w5 hW0
          obtain ⟨v5', rfl, hW⟩ := hW0.at_
          have hb5 := wrote_below hW hownr hb2 hb2.size
          rw [← HST.out] at hW
          have HO5 := Lib.hid hW.1
          clear hW hW0 hb2 hRr hownr hb HOt HVt v0 v1 v2' v3' v4 v5 v6
          go_wp2
          exact ⟨⟨t + 1, by omega, by go_num, HO5, hb5⟩, by simp [intOf]; omega⟩
        · have htI : ¬ (t : Int) < (l : Int) := by omega
          have HT : Hid (midB fs k args code t = headB fs (k + 1)) := Lib.hid (midB_end (by rw [H1.out]; exact hkl) HI.out (by rw [HL.out]; omega))
          rw [HT.out] at HOt
          go_wp2
          go_roundw
          case rel => exact ⟨k + 1, by omega, by go_num, HOt, hb⟩
          case measure => simp [intOf]; omega
    · have hkI : ¬ (k : Int) < (len : Int) := by omega
      have HE : Hid (headB fs k = encP fs) := Lib.hid (headB_end (by rw [H1.out]; omega))
      rw [HE.out] at HOk
      go_wp2
      go_ret2
      have hpe : 0 < (encP fs).length := by simp [encP]
      obtain ⟨g, cp, rfl, hgb, hgl⟩ := HOk.out.form hpe
      obtain ⟨e1, e2, e3, e4⟩ := bytesV_own HOk.out rfl
      exact ⟨g, cp, rfl, hb, e1, e2, e3, e4⟩
end Go.Proofs.YtlbhmopmfddhjaaDoor
