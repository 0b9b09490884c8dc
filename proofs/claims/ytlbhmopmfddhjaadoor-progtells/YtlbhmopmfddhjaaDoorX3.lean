/-
  What the third reference's Put returns, as contracts over the translated program: a program's bytes.
-/
import Derived.Test.YtlbhmopmfddhjaaDoorW
import Derived.Test.YtlbhmopmfddhjaaDoorPlain5
import Derived.Test.YtlbhmopmfddhjaaDoorG
import Derived.Test.YtlbhmopmfddhjaaDoorU
import Derived.OwnWalk
import Derived.Deep.RegionHeld3
import Derived.Deep.AppendLies
namespace Go.Proofs.YtlbhmopmfddhjaaDoor
open Go.RowKit

theorem info5 : (Tryd.prog.info? 5).map (fun i => (i.zero, i.size, i.bytes)) = some (some (.int .u8 0), 1, 1) := by kernel_rfl
theorem pput_no (a : Option Addr) (len cap : Nat) (fs : List Fun) (w : World) (h : FnsAt w a len cap fs) (hM : mayP fs = false) :
    Calls Tryd.prog 13 #[.agg #[.slice a len cap]] w fun e w' => e = .returned (.tuple #[.slice none 0 0, .int .i64 1]) ∧ Below w.heap.size w w' := by
  have hg : Below w.heap.size w (w.alloc (.cells #[.slice a len cap] 24)) := (Below.refl _ _).alloc (Nat.le_refl _) _
  have HF := Lib.hid (h.below hg)
  clear h
  go_enter Tryd.func13, Tryd.ntmps13
  go_wp2_with fail
  refine (pmay_any a len cap fs _ HF.out).mono ?_
  rintro e w' ⟨rfl, hg2⟩
  replace hg := hg.trans (hg2.mono hg.size)
  clear hg2
  go_wp2
  go_ret2
  exact ⟨rfl, hg⟩

def bytesV (zs : List Int) : List Value := zs.map (Value.int .u8)
theorem bytesV_len (zs : List Int) : (bytesV zs).length = zs.length := by simp [bytesV]
theorem bytesV_append (xs ys : List Int) : bytesV xs ++ bytesV ys = bytesV (xs ++ ys) := by simp [bytesV]
theorem bytesV_one (zs : List Int) : ∀ u ∈ bytesV zs, u.oneCell' = true := by
  intro u hu
  obtain ⟨a, _, rfl⟩ := List.mem_map.1 hu
  rfl
theorem bytesV_at {w : World} {x : Addr} {zs : List Int} (h : BytesAt w x zs) : ∀ j u, (bytesV zs)[j]? = some u → w.cell? (x.add j) = some u := by
  intro j u hj
  have hj2 : j < zs.length := by
    have := (List.getElem?_eq_some_iff.1 hj).1
    simpa [bytesV] using this
  have h := h j hj2
  rw [List.getD_eq_getElem?_getD, List.getElem?_eq_getElem hj2] at h
  unfold bytesV at hj
  rw [List.getElem?_map, List.getElem?_eq_getElem hj2] at hj
  simp at hj h
  rw [h, hj]
theorem bytesV_own {w : World} {base g n cap : Nat} {zs : List Int} (h : w.ownsRow base 5 1 (.slice (some ⟨g, 0, none⟩) n cap) n (bytesV zs)) (hn : zs.length = n) :
    base ≤ g ∧ n ≤ cap ∧ cap ≤ maxLen ∧ BytesAt w ⟨g, 0, none⟩ zs := by
  obtain ⟨_, ⟨h1, _⟩ | ⟨g', cap', cur, h1, hb, hh, hc, hm, hs, ht⟩⟩ := h
  · cases h1
  · simp only [Value.slice.injEq, Option.some.injEq, Addr.mk.injEq, and_true, true_and] at h1
    obtain ⟨rfl, rfl⟩ := h1
    refine ⟨hb, hc, hm, fun i hi => ?_⟩
    have e : (⟨g, 0, none⟩ : Addr).add i = ⟨g, i, none⟩ := addr_add g i
    rw [e]
    have h2 : (cur.toList.take n)[i]? = (bytesV zs)[i]? := by
      have := congrArg (fun l => l[i]?) ht
      simpa using this
    rw [List.getElem?_take, if_pos (by omega)] at h2
    simp [World.cell?, hh]
    rw [← Array.getElem?_toList, h2]
    simp [bytesV, hi]
/- the bytes that are written before function k -/
def headB (fs : List Fun) (k : Nat) : List Int := 88 :: 86 :: (fs.length : Int) :: encFs (fs.take k)
theorem headB_len {fs : List Fun} (h : mayP fs = true) (k : Nat) (hk : k ≤ fs.length) : (headB fs k).length ≤ 4115 := by
  have h1 := encFs_take_le h k hk
  have h2 := mayP_len h
  simp only [headB, List.length_cons]
  omega
theorem ownsRow_below {w w' : World} {base : Nat} {e : TypeId} {size : Nat} {v : Value} {n : Nat} {xs : List Value} (h : w.ownsRow base e size v n xs) (hb : Below w.heap.size w w') : w'.ownsRow base e size v n xs := by
  obtain ⟨h1, h2 | ⟨g, cap, cur, hv, hbg, hh, hr⟩⟩ := h
  · exact ⟨h1, .inl h2⟩
  · exact ⟨h1, .inr ⟨g, cap, cur, hv, hbg, (hb.block g (Array.getElem?_eq_some_iff.1 hh).1).trans hh, hr⟩⟩
theorem headB_end {fs : List Fun} {k : Nat} (h : fs.length = k) : headB fs k = encP fs := by
  subst h
  simp [headB, encP]
theorem headB_step {fs : List Fun} {k : Nat} {args : Int} {code : List I} (hk : k < fs.length) (h : fs.getD k zeroF = (args, code)) : headB fs (k + 1) = headB fs k ++ ([args, (code.length : Int)] ++ encC code) := by
  simp only [headB, encFs_take fs k hk, h, encF, List.cons_append, List.nil_append]
set_option maxRecDepth 100000 in
set_option maxHeartbeats 8000000 in
theorem pput_yes (a : Option Addr) (len cap : Nat) (fs : List Fun) (w : World) (h : FnsAt w a len cap fs) (hM : mayP fs = true) :
    Calls Tryd.prog 13 #[.agg #[.slice a len cap]] w fun e w' => ∃ g n cp, e = .returned (.tuple #[.slice (some ⟨g, 0, none⟩) n cp, .int .i64 0]) ∧ Below w.heap.size w w' ∧ w.heap.size ≤ g ∧ (encP fs).length = n ∧ n ≤ cp ∧ cp ≤ maxLen ∧ BytesAt w' ⟨g, 0, none⟩ (encP fs) := by
  have hg : Below w.heap.size w (w.alloc (.cells #[.slice a len cap] 24)) := (Below.refl _ _).alloc (Nat.le_refl _) _
  have HF := Lib.hid (h.below hg)
  obtain ⟨i0, hi5, hz0, hz1, hz2⟩ := info_parts info5
  have hlen := mayP_len hM
  have h1 : fs.length = len := h.1
  rw [h1] at hlen
  have H1 := Lib.hid h1
  obtain ⟨y, rfl, hy⟩ := h.2.2.2.resolve_left (by omega)
  have HY := Lib.hid hy
  have HM := Lib.hid hM
  clear h h1 hy
  go_enter Tryd.func13, Tryd.ntmps13
  go_wp2_with fail
  refine (pmay_any _ len cap fs _ HF.out).mono ?_
  rintro e w1 ⟨rfl, hg1⟩
  have c0 : w1.cell? ⟨w.heap.size, 0, none⟩ = some (.slice (some y) len cap) := (hg1.cell (by simp)).trans (by simp)
  replace hg := hg.trans (hg1.mono hg.size)
  have hlt1 : w.heap.size < w1.heap.size := lt_of_cell c0
  clear hg1 HF
  have hl256 : ((len : Int)) % 256 = (len : Int) := by omega
  go_wp2_with fail
  go_loopw [5, 6] (fun v i wr => ∃ k n g cp : Nat, k ≤ len ∧ i = .int .i64 k ∧ v = .slice (some ⟨g, 0, none⟩) n cp ∧ Hid ((headB fs k).length = n) ∧ wr.ownsRow (w.heap.size + 1) 5 1 (.slice (some ⟨g, 0, none⟩) n cp) n (bytesV (headB fs k)) ∧ Below (w.heap.size + 1) w1 wr)
    (fun _ i _ => len - (intOf i).toNat)
  case atStart =>
    refine ⟨0, 3, w1.heap.size, 3, by omega, rfl, rfl, Lib.hid (by simp [headB, encFs]), ?_, (Below.refl _ _).alloc (by omega) _⟩
    refine ⟨by simp [bytesV, headB, encFs], .inr ⟨w1.heap.size, 3, _, rfl, by omega, heap_alloc_new _ _, Nat.le_refl _, by unfold maxLen; omega, by simp, ?_⟩⟩
    simp [bytesV, headB, encFs, H1.out]
  case round =>
    obtain ⟨k, n, g, cp, hk, rfl, rfl, HN, hown, hb1⟩ := hrel
    have cb := (hb1.cell (p := ⟨w.heap.size, 0, none⟩) (by simp)).trans c0
    have hb := hg.trans (hb1.mono (Nat.le_succ _))
    have hlt : w.heap.size < wr.heap.size := lt_of_cell cb
    have HC0 := Lib.hid c0
    clear c0
    by_cases hkl : k < len
    · have hkI : (k : Int) < (len : Int) := by omega
      have hk0 : (0 : Int) ≤ (k : Int) := Int.natCast_nonneg _
      have hI := HY.out k hkl
      have hyb := lt_of_cell hI.1
      rcases hi : fs.getD k zeroF with ⟨args, code⟩
      rw [hi] at hI
      have HI := Lib.hid hi
      have HB := Lib.hid (fnB_facts (mayP_fn HM.out k (by rw [H1.out]; exact hkl)))
      rw [hi] at HB
      obtain ⟨iw0, b, l, cc, iw1, hCode⟩ := hI
      simp only at iw0 iw1 hCode
      have i0' := (hb.cell (lt_of_cell iw0)).trans iw0
      have i1 := (hb.cell (lt_of_cell iw1)).trans iw1
      have HW1 := Lib.hid iw1
      have HCo := Lib.hid hCode
      clear iw0 iw1
      have hl : code.length = l := hCode.1
      have hl64 : l ≤ 64 := by rw [← hl]; exact (codeB_len HB.out.1).2
      have ha0 : 0 ≤ args := HB.out.2.1
      have ha4 : args ≤ 4 := HB.out.2.2.1
      have HL := Lib.hid hl
      have hwa : IntKind.u8.wrap args = args := by simp [IntKind.wrap, IntKind.bits, IntKind.signed]; omega
      have hwl : IntKind.u8.wrap (l : Int) = (l : Int) := by simp [IntKind.wrap, IntKind.bits, IntKind.signed]; omega
      have hn4 := headB_len HM.out k (by rw [H1.out]; omega)
      rw [HN.out] at hn4
      have hgB : w.heap.size + 1 ≤ g := (bytesV_own hown HN.out).1
      have hne1 : some w.heap.size ≠ (Value.slice (some ⟨g, 0, none⟩) n cp).ownBlock := by
        simp [Value.ownBlock]
        omega
      have hne2 : some (y.add (k * 2)).block ≠ (Value.slice (some ⟨g, 0, none⟩) n cp).ownBlock := by
        simp [Value.ownBlock]
        omega
      clear hi hl hCode
      go_wp2_with fail
      go_region_held3 (fun w' => w'.cell? ⟨w.heap.size, 0, none⟩ = some (.slice (some y) len cap) ∧ w'.cell? (y.add (k * 2)) = some (.int .i64 args) ∧ w'.cell? ⟨(y.add (k * 2)).block, (y.add (k * 2)).off + 1, none⟩ = some (.slice b l cc))
        (first
          | go_keep
          | (go_split_ands
             refine ⟨?_, ?_, ?_⟩
             · (rw [hgrow.cell_far ⟨w.heap.size, 0, none⟩ (by simp; omega) hne1]; assumption)
             · (rw [hgrow.cell_far (y.add (k * 2)) (by simp; omega) hne2]; assumption)
             · (rw [hgrow.cell_far ⟨(y.add (k * 2)).block, (y.add (k * 2)).off + 1, none⟩ (by simp; omega) hne2]; assumption)))
        ((refine step_append_lies _ (by rfl) _ _ _ (by rfl) (w.heap.size + 1) 5 i0 _ 1 1 Tryd.underlying25 hi5 hz0 hz1 hz2 rfl (by omega) (.slice (some ⟨g, 0, none⟩) n cp) n (bytesV (headB fs k)) (by rfl) ((hown.alloc _).drew)
            ⟨wr.heap.size, 0, none⟩ 2 2 [.int .u8 args, .int .u8 l] (by rfl) (by rfl) (World.news_of_block (cs := #[.int .u8 args, .int .u8 l]) (t := 5) (fr := (0, 0)) (heap_alloc_new wr _)) (by simp [Value.oneCell'])
            (by omega) (by unfold maxLen; omega) (by omega) (by simp; omega) (wr.heap.size + 1) (by simp) ?_; intro g2 cp2 w3 hown1 hgrow hat hlt3))
      have hb3 : Below (w.heap.size + 1) w1 w3 := ((hb1.alloc (Nat.le_trans (by omega) hb1.size) _).drew).grown hgrow (by simp; omega) (fun k hk => by
        simp [Value.ownBlock] at hk
        omega)
      have hown2 : w3.ownsRow (w.heap.size + 1) 5 1 (.slice (some ⟨g2, 0, none⟩) (n + 2) cp2) (n + 2) (bytesV (headB fs k ++ [args, (l : Int)])) := by
        rw [← bytesV_append]
        exact hown1
      clear hown1 hown hgrow hat hlt3 hne1 hne2 i0' i1 cb hb1 hb
      go_wp2_with fail
      go_loopw [5, 7] (fun v i wr2 => ∃ t n2 g3 cp3 : Nat, t ≤ l ∧ i = .int .i64 t ∧ v = .slice (some ⟨g3, 0, none⟩) n2 cp3 ∧ Hid ((headB fs k ++ [args, (l : Int)] ++ encC (code.take t)).length = n2) ∧ wr2.ownsRow (w.heap.size + 1) 5 1 (.slice (some ⟨g3, 0, none⟩) n2 cp3) n2 (bytesV (headB fs k ++ [args, (l : Int)] ++ encC (code.take t))) ∧ Below (w.heap.size + 1) w1 wr2)
        (fun _ i _ => l - (intOf i).toNat)
      case atStart =>
        refine ⟨0, n + 2, g2, cp2, by omega, rfl, rfl, Lib.hid (by simp [encC, HN.out]), ?_, hb3⟩
        simpa [encC] using hown2
      case round =>
        obtain ⟨t, n2, g3, cp3, ht, rfl, rfl, HN2, hown3, hb4⟩ := hrel
        have cb := (hb4.cell (p := ⟨w.heap.size, 0, none⟩) (by simp)).trans HC0.out
        have hb := hg.trans (hb4.mono (Nat.le_succ _))
        have hlt4 : w.heap.size < wr.heap.size := lt_of_cell cb
        have i1 := (hb.cell (lt_of_cell HW1.out)).trans HW1.out
        by_cases htl : t < l
        · have htI : (t : Int) < (l : Int) := by omega
          have ht0 : (0 : Int) ≤ (t : Int) := Int.natCast_nonneg _
          obtain ⟨e1, e2, e3, e4, e5⟩ := HCo.out
          obtain ⟨z, rfl, hz⟩ := e5.resolve_left (by omega)
          have hA := InstHere.below (hz t htl) hb
          have hok := e4 _ (getD_mem code t zeroI (by rw [HL.out]; exact htl))
          have hmay := codeB_may HB.out.1 t (by rw [HL.out]; exact htl)
          rcases hi : code.getD t zeroI with ⟨o, f, d, s, r, xx, m⟩
          rw [hi] at hA hok hmay
          have HI2 := Lib.hid hi
          obtain ⟨v0, v1, v2, v3, v4, v5, v6⟩ := hA
          obtain ⟨hok1, hok2⟩ := hok
          simp only at v0 v1 v2 v3 v4 v5 v6 hok1 hok2
          have hmay' : mayB o f d s r xx m = true := hmay
          have HMay := Lib.hid hmay'
          have hn2 : n2 ≤ 5000 := by
            have h1 := HN2.out
            have h2 := encC_len (code.take t)
            have h3 := headB_len HM.out k (by rw [H1.out]; omega)
            simp only [List.length_append, List.length_cons, List.length_nil, List.length_take] at h1 h2
            omega
          clear hi hz e1 e2 e3 e4 hmay hmay'
          go_wp2_with fail
          refine (rput_yes _ _ _ _ _ _ _ _ HMay.out hok1 hok2).mono ?_
          rintro e w5 ⟨b5, rfl, hg5, hb5, hB5⟩
          have hown4 := ownsRow_below hown3 hg5
          have hb6 : Below (w.heap.size + 1) w1 w5 := hb4.trans (hg5.mono (by omega))
          have HB5 := Lib.hid hB5
          have hg3B : w.heap.size + 1 ≤ g3 := (bytesV_own hown3 HN2.out).1
          clear v0 v1 v2 v3 v4 v5 v6 i1 cb hown3 hb4 hB5
          go_wp2_with (at_builtin; refine wpList_append_lies _ rfl _ _ _ rfl (w.heap.size + 1) 5 i0 _ 1 1 Tryd.underlying25 hi5 hz0 hz1 hz2 rfl (by omega) _ n2 _ rfl hown4 ⟨b5, 0, none⟩ 8 8 (bytesV (encL o f d s r xx m)) rfl rfl (bytesV_at HB5.out) (bytesV_one _) (by omega) (by unfold maxLen; omega) (by omega) (by have := hg5.size; omega) w5.heap.size rfl ?_)
          intro g6 cp6 w6 hown6 hgrow6 hat6 hlt6
          have hb7 : Below (w.heap.size + 1) w1 w6 := hb6.grown hgrow6 (by have := hg5.size; omega) (fun k hk => by
            simp [Value.ownBlock] at hk
            omega)
          clear hown4 hb6 hgrow6 hat6 hg5
          go_wp2
          refine ⟨⟨t + 1, n2 + 8, g6, cp6, by omega, by go_num, rfl, Lib.hid ?_, ?_, hb7⟩, by simp [intOf]; omega⟩
          · rw [encC_take code t (by rw [HL.out]; exact htl), HI2.out, ← List.append_assoc, List.length_append, HN2.out]
            rfl
          · rw [encC_take code t (by rw [HL.out]; exact htl), HI2.out, ← List.append_assoc, ← bytesV_append, show headB fs k ++ [args, (l : Int)] ++ encC (code.take t) = headB fs k ++ args :: (l : Int) :: encC (code.take t) by simp]
            exact hown6
        · have HT : Hid (headB fs k ++ [args, (l : Int)] ++ encC (code.take t) = headB fs (k + 1)) := Lib.hid (by
            rw [headB_step (by rw [H1.out]; exact hkl) HI.out, HL.out, List.take_of_length_le (by rw [HL.out]; omega), List.append_assoc])
          rw [HT.out] at hown3 HN2
          go_wp2
          go_roundw
          case rel => exact ⟨k + 1, n2, g3, cp3, by omega, by go_num, rfl, HN2, hown3, hb4⟩
          case measure => simp [intOf]; omega
    · have HE : Hid (headB fs k = encP fs) := Lib.hid (headB_end (by rw [H1.out]; omega))
      rw [HE.out] at hown HN
      go_wp2
      go_ret2
      obtain ⟨e1, e2, e3, e4⟩ := bytesV_own hown HN.out
      exact ⟨g, n, cp, rfl, hb, by omega, HN.out, e2, e3, e4⟩
end Go.Proofs.YtlbhmopmfddhjaaDoor
