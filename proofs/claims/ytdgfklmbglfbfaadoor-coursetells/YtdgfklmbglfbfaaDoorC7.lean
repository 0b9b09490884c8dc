/-
  What package course's Reach and Fine return, as contracts over the translated program.
-/
import Derived.Test.YtdgfklmbglfbfaaDoorC6
namespace Go.Proofs.YtdgfklmbglfbfaaDoor
open Go Go.RowKit
set_option linter.unusedVariables false
theorem enters_reach : ∀ (args : Array Value) (w : World), (callFunc 29 args).run Tryd.prog w = .ok (.enter 29 args) w :=
  enters_of Tryd.func29 (by kernel_rfl) rfl
theorem enters_fine : ∀ (args : Array Value) (w : World), (callFunc 32 args).run Tryd.prog w = .ok (.enter 32 args) w :=
  enters_of Tryd.func32 (by kernel_rfl) rfl
theorem makeFn (fn : Fn) (first cap : Array Value) (w : World) : (Instr.makeFunc fn first cap).run Tryd.prog w = .ok (.func fn first cap) w := rfl
def BoolsPost (zs : List Bool) (w : World) (e : Ending) (w' : World) : Prop :=
  ∃ b l cp, e = .returned (.slice b l cp) ∧ Below w.heap.size w w' ∧ BoolsAt w' b l cp zs
def InvR (c : List I) (V G n : Nat) (k : Nat) (W : World) : Prop :=
  Box W V 32 #[.slice (some ⟨G, 0, none⟩) n n] ∧ Vals W G 4 n (fun p => .bool (decide (p < k) && rch c p))
set_option maxRecDepth 100000 in
set_option maxHeartbeats 4000000 in
theorem reach_any (a : Option Addr) (len cap : Nat) (c : List I) (w : World) (hR : RowsIn w) (h : CodeAt w a len cap c) :
    Calls Tryd.prog 15 #[.slice a len cap] w (BoolsPost (reachP c) w) := by
  have hm : len ≤ 9223372036854775807 := by have := h.2.1; have := h.2.2.1; unfold maxLen at this; omega
  have H := Lib.hid h
  have H1 := Lib.hid h.1
  obtain ⟨TS, hTS⟩ : ∃ TS, reachP c = TS := ⟨_, rfl⟩
  rw [hTS]
  have HT := Lib.hid hTS
  have k1 := cmay_any a len cap c w hR h
  clear hTS h
  go_enter Tryd.func15, Tryd.ntmps15
  go_wp2_with fail
  obtain ⟨Q, hQ⟩ : ∃ Q, codeB c = Q := ⟨_, rfl⟩
  rw [hQ] at k1
  have HQ := Lib.hid hQ
  clear hQ
  refine k1.mono ?_
  rintro e m1 ⟨rfl, hb1⟩
  have HB := Lib.hid hb1
  clear k1 hb1
  cases Q
  · have hT : Hid (TS = []) := Lib.hid (by rw [← HT.out, reachP, HQ.out]; simp)
    go_wp2_with fail
    go_ret
    exact ⟨none, 0, 0, rfl, HB.out, by rw [hT.out]; exact bools_nil _⟩
  have hT : Hid (TS = (List.range len).map (rch c)) := Lib.hid (by rw [← HT.out, reachP, HQ.out, H1.out]; simp)
  have h64 : len ≤ 64 := by have := (codeB_len HQ.out).2; have := H1.out; omega
  have hmf := makeFn
  go_wp2_with (refine wpList_makeV 32 4 Tryd.underlying32 (.bool false) 1 (by omega) infoB rfl _ rfl _ _ rfl len _ rfl rfl rfl (by omega) _ rfl ?_; intro w1 hV1 hgr hlt)
  have HB1 : Hid (Below m1.heap.size m1 w1) := Lib.hid ⟨hgr.os, hgr.tape, hgr.output, hgr.size, fun j hj => hgr.block j hj (by simp)⟩
  have hbA : Below w1.heap.size w1 (w1.alloc (.cells #[.slice (some ⟨m1.heap.size, 0, none⟩) len len] 32)) := (Below.refl _ _).alloc (Nat.le_refl _) _
  have HInv : Hid (InvR c w1.heap.size m1.heap.size len 0 (w1.alloc (.cells #[.slice (some ⟨m1.heap.size, 0, none⟩) len len] 32))) := Lib.hid ⟨Box.new _ _ _, (hV1.later hbA).same (fun p _ => by simp)⟩
  have HB2 : Hid (Below w.heap.size w (w1.alloc (.cells #[.slice (some ⟨m1.heap.size, 0, none⟩) len len] 32))) := Lib.hid ((HB.out.trans (HB1.out.mono HB.out.size)).trans (hbA.mono (Nat.le_trans HB.out.size HB1.out.size)))
  have HG : Hid (w.heap.size ≤ m1.heap.size) := Lib.hid HB.out.size
  have HV : Hid (m1.heap.size < w1.heap.size) := Lib.hid hlt
  have HS2 : Hid ((w1.alloc (.cells #[.slice (some ⟨m1.heap.size, 0, none⟩) len len] 32)).heap.size = w1.heap.size + 1) := Lib.hid (by simp)
  clear hV1 hgr hlt hbA
  go_wp2_with fail
  generalize hW2 : w1.alloc (.cells #[.slice (some ⟨m1.heap.size, 0, none⟩) len len] 32) = W2 at *
  generalize hG : m1.heap.size = G at *
  generalize hVv : w1.heap.size = V at *
  clear hW2 hG hVv hmf
  refine (walk_any 29 #[.pointer (some ⟨V, 0, none⟩)] (InvR c V G len) c a len cap w W2 H.out HQ.out HB2.out enters_reach ?hkeep ?hskip ?hvisit HInv.out).mono ?_
  case hkeep =>
    rintro k W W' ⟨i1, i2⟩ hk
    have hs := HS2.out
    have hv := HV.out
    exact ⟨i1.kept (hk V (by omega)), i2.kept (hk G (by omega))⟩
  case hskip =>
    rintro k W hk hr ⟨i1, i2⟩
    refine ⟨i1, i2.same (fun p hp => ?_)⟩
    by_cases hpk : p = k
    · subst hpk
      simp [hr]
    · have : decide (p < k) = decide (p < k + 1) := by
        congr 1
        exact propext ⟨fun h => by omega, fun h => by omega⟩
      rw [this]
  case hvisit =>
    rintro k W b l cp hk hr hbW hsz ⟨i1, i2⟩ hI hlow
    refine (reach1_any k len G V b l cp _ W hk h64 i1 i2).mono ?_
    rintro e W' ⟨rfl, rfl⟩
    have hs := HS2.out
    have hv := HV.out
    have hg := HG.out
    refine ⟨rfl, ⟨i1.other (by show V ≠ G; omega) _, (i2.put hk _).same (fun p hp => ?_)⟩, (Below.refl _ _).setCell hg _, fun j hj _ => Below.heap_setCell _ _ _ _ (by show j ≠ G; omega)⟩
    by_cases hpk : p = k
    · subst hpk
      simp [hr]
    · have : decide (p < k) = decide (p < k + 1) := by
        congr 1
        exact propext ⟨fun h => by omega, fun h => by omega⟩
      rw [if_neg hpk, this]
  rintro e m3 ⟨rfl, ⟨i1, i2⟩, hb3⟩
  have HB3 := Lib.hid hb3
  have HR : Hid (BoolsAt m3 (some ⟨G, 0, none⟩) len len TS) := Lib.hid (by
    rw [hT.out]
    refine Vals.bools (ty := 4) (i2.same (fun p hp => ?_)) (by omega)
    simp [hp])
  have c0 : m3.cell? ⟨V, 0, none⟩ = some (.slice (some ⟨G, 0, none⟩) len len) := i1.cell rfl
  clear i1 i2 hb3
  go_wp2_with fail
  go_ret
  exact ⟨_, _, _, rfl, HB3.out, HR.out⟩
end Go.Proofs.YtdgfklmbglfbfaaDoor
