/-
  What slices.Delete returns at entries, as a contract over the translated program: a row of one's own without one entry, in place.
-/
import Derived.Test.YtilddlgcfbefiaaDoorU7
import Derived.Lib.SliceRun
namespace Go.Proofs.YtilddlgcfbefiaaDoor
set_option linter.unusedSimpArgs false
set_option linter.unusedVariables false
open Go Go.RowKit

/- cells laid over a row from a place on -/
def layL (xs : List Value) : Nat → List Value → List Value
  | _, [] => xs
  | o, v :: r => layL (xs.set o v) (o + 1) r
theorem layL_len (vs : List Value) : ∀ (xs : List Value) (o : Nat), (layL xs o vs).length = xs.length := by
  induction vs with
  | nil => exact fun _ _ => rfl
  | cons v r ih => exact fun xs o => by rw [layL, ih, List.length_set]
theorem layL_out (vs : List Value) : ∀ (xs : List Value) (o j : Nat), j < o ∨ o + vs.length ≤ j → (layL xs o vs)[j]? = xs[j]? := by
  induction vs with
  | nil => exact fun _ _ _ _ => rfl
  | cons v r ih =>
    intro xs o j h
    rw [layL, ih _ _ _ (by simp at h; omega), List.getElem?_set_ne (by simp at h; omega)]
theorem layL_in (vs : List Value) : ∀ (xs : List Value) (o j : Nat), j < vs.length → o + j < xs.length → (layL xs o vs)[o + j]? = vs[j]? := by
  induction vs with
  | nil => exact fun _ _ _ h => by simp at h
  | cons v r ih =>
    intro xs o j h hl
    rw [layL]
    cases j with
    | zero => rw [layL_out _ _ _ _ (by omega), Nat.add_zero, List.getElem?_set_self (by omega)]; rfl
    | succ j =>
      have := ih (xs.set o v) (o + 1) j (by simpa using h) (by rw [List.length_set]; omega)
      rw [show o + (j + 1) = o + 1 + j by omega, this]
      rfl
theorem own_lay {base g n c : Nat} {e : TypeId} {size : Nat} (vs : List Value) : ∀ (W : World) (xs : List Value) (o : Nat), W.ownsRow base e size (.slice (some ⟨g, 0, none⟩) n c) n xs →
    (W.setCells g o vs).ownsRow base e size (.slice (some ⟨g, 0, none⟩) n c) n (layL xs o vs) ∧ W.grownBy (W.setCells g o vs) (some g) := by
  induction vs with
  | nil => exact fun W xs o h => ⟨h, grownBy_refl _ _⟩
  | cons v r ih =>
    intro W xs o h
    obtain ⟨h1, h2⟩ := h.stored o v
    obtain ⟨h3, h4⟩ := ih _ _ (o + 1) h1
    exact ⟨h3, grownBy_trans h2 h4⟩
theorem run_clearE (w : World) (ty : TypeId) (g o c : Nat) (hc : ∀ j, j < 2 → (w.cell? ⟨g, o + j, none⟩).isSome = true) (hf : ∀ j, j < 2 → w.frozen? ⟨g, o + j, none⟩ = false) :
    (Builtin.clear_ #[40] ty #[.slice (some ⟨g, o, none⟩) 1 c]).run Tryd.prog w = .ok (.tuple #[]) (w.setCells g o [.int .u32 0, .slice none 0 0]) := by
  have hst := run_storeCells_cells (P := Tryd.prog) g o [.int .u32 0, .slice none 0 0] 0 w (by simpa using hc) (by simpa using hf) (by simp [Value.oneCell'])
  simp only [Nat.add_zero] at hst
  have hz : (zeroValue 66).run Tryd.prog w = .ok (.agg #[.int .u32 0, .slice none 0 0]) w := by kernel_rfl
  have hzc : (Builtin.zeroCells (Value.agg #[.int .u32 0, .slice none 0 0]).cells 1).toList = [.int .u32 0, .slice none 0 0] := by kernel_rfl
  simp [Builtin.clear_, run_underlying Tryd.underlying40, hz, hzc, hst]
theorem own_erase {W : World} {base g n1 c i m : Nat} {xs : List Value} {es : List Ent} (hm : i + m = n1) (o : W.ownsRow base 66 2 (.slice (some ⟨g, 0, none⟩) (n1 + 1) c) (n1 + 1) xs) (od : Owned W base (some g) xs es) (hn : es.length = n1 + 1) :
    Row ((W.setCells g (i * 2) (xs.drop ((i + 1) * 2))).setCells g (n1 * 2) [.int .u32 0, .slice none 0 0]) base (.slice (some ⟨g, 0, none⟩) n1 c) (es.eraseIdx i) ∧ W.grownBy ((W.setCells g (i * 2) (xs.drop ((i + 1) * 2))).setCells g (n1 * 2) [.int .u32 0, .slice none 0 0]) (some g) := by
  obtain ⟨o1, g1⟩ := own_lay (xs.drop ((i + 1) * 2)) W xs (i * 2) o
  obtain ⟨o2, g2⟩ := own_lay [.int .u32 0, .slice none 0 0] _ _ (n1 * 2) o1
  have hg := grownBy_trans g1 g2
  have hxl := o.1
  have o3 := own_prefix o2 (i := n1) (by omega)
  have hle : (es.eraseIdx i).length = n1 := by rw [List.length_eraseIdx, if_pos (by omega)]; omega
  refine ⟨⟨_, by rw [hle]; exact o3, od.perm hg (fun k => if k < i then k else k + 1) (by rw [o3.1, hle]) (fun k hk => ?_) (fun j k _ _ e => by split at e <;> split at e <;> omega)⟩, hg⟩
  rw [hle] at hk
  have hx : ∀ j, j < 2 → ((layL (layL xs (i * 2) (xs.drop ((i + 1) * 2))) (n1 * 2) [.int .u32 0, .slice none 0 0]).take (n1 * 2))[k * 2 + j]? = xs[(if k < i then k else k + 1) * 2 + j]? := by
    intro j hj
    rw [List.getElem?_take, if_pos (by omega), layL_out _ _ _ _ (by omega)]
    by_cases hki : k < i
    · rw [if_pos hki, layL_out _ _ _ _ (by omega)]
    · rw [if_neg hki, show k * 2 + j = i * 2 + ((k - i) * 2 + j) by omega, layL_in _ _ _ _ (by rw [List.length_drop]; omega) (by omega), List.getElem?_drop]
      congr 1
      omega
  refine ⟨by split <;> omega, erase_at es i k, ?_, ?_⟩
  · have := hx 0 (by omega)
    simpa using this
  · exact hx 1 (by omega)
set_option maxRecDepth 100000 in
set_option maxHeartbeats 4000000 in
theorem delete_at (g n1 c i m base : Nat) (es : List Ent) (w : World) (h : Row w base (.slice (some ⟨g, 0, none⟩) (n1 + 1) c) es) (hn : es.length = n1 + 1) (hm : i + m = n1) (h40 : n1 ≤ 1000) :
    Calls Tryd.prog 142 #[.slice (some ⟨g, 0, none⟩) (n1 + 1) c, .int .i64 (i : Int), .int .i64 ((i : Int) + 1)] w fun e w' => e = .returned (.slice (some ⟨g, 0, none⟩) n1 c) ∧ w.grownBy w' (some g) ∧ Row w' base (.slice (some ⟨g, 0, none⟩) n1 c) (es.eraseIdx i) := by
  obtain ⟨jE, hiE, hy0, hy1, hy2⟩ := info_parts infoE
  obtain ⟨xs, o, od⟩ := h
  rw [hn] at o
  have hxl := o.1
  have hcap : n1 + 1 ≤ c := by
    obtain ⟨_, ⟨e, _⟩ | ⟨g', cap', cur, e, _, _, hc, _⟩⟩ := o
    · cases e
    · simp only [Value.slice.injEq, true_and] at e
      omega
  have hcm : c ≤ maxLen := by
    obtain ⟨_, ⟨e, _⟩ | ⟨g', cap', cur, e, _, _, _, hc, _⟩⟩ := o
    · cases e
    · simp only [Value.slice.injEq, true_and] at e
      omega
  unfold maxLen at hcm
  have HE := Lib.hid (own_erase (W := w.drew) (i := i) (m := m) hm o.drew (od.below (Below.refl _ _).drew) hn)
  have HG : Hid (w.grownBy w.drew (some g)) := Lib.hid (grownBy_of_below (Below.refl _ _).drew _)
  have HC : Hid (∀ j, j < (n1 + 1) * 2 → (w.drew.cell? ⟨g, j, none⟩).isSome = true) := Lib.hid (fun j hj => by
    have hl : j < xs.length := by rw [o.1]; exact hj
    rw [own_cells o.drew j xs[j] (List.getElem?_eq_getElem hl)]
    rfl)
  have HZ : Hid (∀ j, w.drew.frozen? ⟨g, j, none⟩ = false) := Lib.hid (fun j => Row.free ⟨xs, by rw [hn]; exact o.drew, od.below (Below.refl _ _).drew⟩ j)
  have HX : Hid (∀ j u, (xs.drop ((i + 1) * 2))[j]? = some u → w.drew.cell? ⟨g, (i + 1) * 2 + j, none⟩ = some u) := Lib.hid (fun j u hj => by
    rw [List.getElem?_drop] at hj
    exact own_cells o.drew _ _ hj)
  have HOne : Hid (∀ u ∈ xs, u.oneCell' = true) := Lib.hid od.ents.one
  have q3 := run_frontE (some ⟨g, 0, none⟩) (n1 + 1) c i (by omega)
  have q8 := run_backE g (n1 + 1) c (i + 1) ((i : Int) + 1) (by omega) (by omega)
  rw [show n1 + 1 - (i + 1) = m by omega] at q8
  obtain ⟨A8, hA8⟩ : ∃ A8 : Addr, (if c = i + 1 then some (⟨g, 0, none⟩ : Addr) else some ⟨g, (i + 1) * 2, none⟩) = some A8 := by
    split
    · exact ⟨_, rfl⟩
    · exact ⟨_, rfl⟩
  have HN : Hid (∀ j u, (xs.drop ((i + 1) * 2))[j]? = some u → w.drew.cell? (A8.add j) = some u) := Lib.hid (fun j u hj => by
    by_cases h : c = i + 1
    · have : (xs.drop ((i + 1) * 2)).length = 0 := by rw [List.length_drop]; omega
      rw [List.length_eq_zero_iff.1 this] at hj
      simp at hj
    · rw [if_neg h] at hA8
      obtain rfl := Option.some.inj hA8
      have e : (⟨g, (i + 1) * 2, none⟩ : Addr).add j = ⟨g, (i + 1) * 2 + j, none⟩ := by
        unfold Addr.add
        split <;> simp_all
      rw [e]
      exact HX.out j u hj)
  rw [hA8] at q8
  have q9 : ∀ w, (Instr.sliceAt 40 (.slice (some ⟨g, 0, none⟩) n1 c) (some (.int .i64 (n1 : Int))) (some (.int .i64 ((n1 : Int) + 1))) none).run Tryd.prog w = .ok (.slice (some ⟨g, n1 * 2, none⟩) 1 (c - n1)) w := by
    intro w
    have ht : Tryd.prog.underlying 40 = some (.slice (Tryd.prog.elem 40)) := by kernel_rfl
    have he : Tryd.prog.elem 40 = 66 := by kernel_rfl
    rw [run_sliceAt_slice w 40 _ _ _ _ ht, run_slice_lh w 40 _ n1 c ht .i64 .i64 n1 ((n1 : Int) + 1) (by omega) (by omega) (by omega), he, sizeOfE]
    have e1 : ((n1 : Int) + 1).toNat = n1 + 1 := by omega
    have e2 : n1 + 1 - n1 = 1 := by omega
    simp [Result.andThen, sliced, addr_add, e1, e2]
    omega
  obtain ⟨WA, hWA⟩ : ∃ WA, w.drew.setCells g (i * 2) (xs.drop ((i + 1) * 2)) = WA := ⟨_, rfl⟩
  rw [hWA] at HE
  have HC1 : Hid (∀ j, j < 2 → (WA.cell? ⟨g, n1 * 2 + j, none⟩).isSome = true) := Lib.hid (fun j hj => by
    have o1 := (own_lay (xs.drop ((i + 1) * 2)) w.drew xs (i * 2) o.drew).1
    rw [hWA] at o1
    have hl : n1 * 2 + j < (layL xs (i * 2) (xs.drop ((i + 1) * 2))).length := by rw [o1.1]; omega
    rw [own_cells o1 _ _ (List.getElem?_eq_getElem hl)]
    rfl)
  have HZ1 : Hid (∀ j, j < 2 → WA.frozen? ⟨g, n1 * 2 + j, none⟩ = false) := Lib.hid (fun j hj => by
    rw [← hWA, World.frozen?_setCells]
    exact HZ.out _)
  have hcl : ∀ ty, (Builtin.clear_ #[40] ty #[.slice (some ⟨g, n1 * 2, none⟩) 1 (c - n1)]).run Tryd.prog WA = .ok (.tuple #[]) (WA.setCells g (n1 * 2) [.int .u32 0, .slice none 0 0]) := fun ty => run_clearE WA ty g (n1 * 2) (c - n1) HC1.out HZ1.out
  have hq : ((i : Int) == (i : Int) + 1) = false := by simp; omega
  have hwn := wI ((n1 : Int) + 1) (by omega) (by omega)
  have l0 : (i : Int) ≤ (i : Int) + 1 := by omega
  have l1 : (i : Int) + 1 ≤ (n1 : Int) + 1 := by omega
  have l2 : (n1 : Int) + 1 ≤ (c : Int) := by omega
  have l3 : (i : Int) ≤ (c : Int) := by omega
  have HWA := Lib.hid hWA
  have HL := Lib.hid hxl
  clear o od hA8 hWA hxl
  go_enter Tryd.func142, Tryd.ntmps142
  go_wp2_with fail
  refine wp_region_any (by kernel_rfl) ?_
  (try (change wpAny _ _ _ _ _ _ _ (World.drew _)))
  refine wpAny_yield (i := 0) (v := ?v0) rfl rfl (by kernel_rfl) (by kernel_rfl) (by kernel_rfl) (fun _ _ _ h => h) (by rfl) ?hy0 ?rest0
  case hy0 =>
    intro w
    go_simp
    try with_reducible rfl
  simp only [Act.put, List.setIfInBounds_toArray, List.set_cons_zero, List.set_cons_succ]
  refine wpAny_yield (i := 1) (v := ?v1) rfl rfl (by kernel_rfl) (by kernel_rfl) (by kernel_rfl) (fun _ _ _ h => h) (by rfl) ?hy1 ?rest1
  case hy1 =>
    intro w
    go_simp
    try with_reducible rfl
  simp only [Act.put, List.setIfInBounds_toArray, List.set_cons_zero, List.set_cons_succ]
  refine wpAny_yield (i := 2) (v := ?v2) rfl rfl (by kernel_rfl) (by kernel_rfl) (by kernel_rfl) (fun _ _ _ h => h) (by rfl) ?hy2 ?rest2
  case hy2 =>
    intro w
    go_simp
    try with_reducible rfl
  simp only [Act.put, List.setIfInBounds_toArray, List.set_cons_zero, List.set_cons_succ]
  refine wpAny_yield (i := 3) (v := ?v3) rfl rfl (by kernel_rfl) (by kernel_rfl) (by kernel_rfl) (fun _ _ _ h => h) (by rfl) ?hy3 ?rest3
  case hy3 =>
    intro w
    go_simp
    try with_reducible rfl
  simp only [Act.put, List.setIfInBounds_toArray, List.set_cons_zero, List.set_cons_succ]
  refine wpAny_yield (i := 4) (v := ?v4) rfl rfl (by kernel_rfl) (by kernel_rfl) (by kernel_rfl) (fun _ _ _ h => h) (by rfl) ?hy4 ?rest4
  case hy4 =>
    intro w
    go_simp
    try with_reducible rfl
  simp only [Act.put, List.setIfInBounds_toArray, List.set_cons_zero, List.set_cons_succ]
  refine wpAny_yield (i := 5) (v := ?v5) rfl rfl (by kernel_rfl) (by kernel_rfl) (by kernel_rfl) (fun _ _ _ h => h) (by rfl) ?hy5 ?rest5
  case hy5 =>
    intro w
    go_simp
    try with_reducible rfl
  simp only [Act.put, List.setIfInBounds_toArray, List.set_cons_zero, List.set_cons_succ]
  refine wpAny_ready (rs := [6]) (by kernel_rfl) (by simp) ?_
  refine AllReady.cons rfl (fun K hK => ?_) AllReady.nil
  refine step_append_room (by rfl) _ _ 40 (by rfl) 66 jE 2 Tryd.underlying40 hiE hy1 g 0 i c (by rfl) A8 m (c - (i + 1)) (xs.drop ((i + 1) * 2)) (by rfl) (by have := HL.out; rw [List.length_drop]; omega) HN.out (fun u hu => HOne.out u (List.mem_of_mem_drop hu)) (by omega) (fun j hj => by rw [Nat.zero_add]; rw [List.length_drop, HL.out] at hj; exact ⟨HC.out _ (by omega), HZ.out _⟩) ?_
  rw [Nat.zero_add, HWA.out, hm]
  refine hK _ _ ?_
  clear hK K
  try simp only [Act.put, List.setIfInBounds_toArray, List.set_cons_zero, List.set_cons_succ]
  refine wpAny_yield (i := 7) (v := ?v7) rfl rfl (by kernel_rfl) (by kernel_rfl) (by kernel_rfl) (fun _ _ _ h => h) (by rfl) ?hy7 ?rest7
  case hy7 =>
    intro w
    go_simp
    try with_reducible rfl
  simp only [Act.put, List.setIfInBounds_toArray, List.set_cons_zero, List.set_cons_succ]
  refine wpAny_done (by kernel_rfl) ?_ _
  clear q3 q8
  go_wp2
  go_ret
  exact ⟨rfl, grownBy_trans HG.out HE.out.2, HE.out.1⟩
end Go.Proofs.YtilddlgcfbefiaaDoor
