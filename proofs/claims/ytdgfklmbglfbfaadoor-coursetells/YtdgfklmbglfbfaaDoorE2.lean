/-
  What the eighth reference's Reach returns, as a contract over the translated program.
-/
import Derived.Test.YtdgfklmbglfbfaaDoorE1
namespace Go.Proofs.YtdgfklmbglfbfaaDoor
open Go Go.RowKit
set_option linter.unusedVariables false
def moreN : Value → Nat → Nat
  | .bool true, n => n + 1
  | _, _ => 0
def BoolsLow (zs : List Bool) (w : World) (e : Ending) (w' : World) : Prop :=
  ∃ b l cp, e = .returned (.slice b l cp) ∧ Below w.heap.size w w' ∧ BoolsAt w' b l cp zs ∧ ∀ y, b = some y → w.heap.size ≤ y.block
def isF : Option Value → Bool
  | some (.bool false) => true
  | _ => false
/- how many of n cells are false -/
def cfW (W : World) (G : Nat) : Nat → Nat
  | 0 => 0
  | n + 1 => cfW W G n + (if isF (W.cell? ⟨G, n, none⟩) = true then 1 else 0)
def cfm (m : Nat → Bool) : Nat → Nat
  | 0 => 0
  | n + 1 => cfm m n + (if m n = true then 0 else 1)
theorem cf_eq {W : World} {G n : Nat} {ty : TypeId} {m : Nat → Bool} (h : Vals W G ty n (fun p => .bool (m p))) : cfW W G n = cfm m n := by
  have key : ∀ k, k ≤ n → cfW W G k = cfm m k := by
    intro k
    induction k with
    | zero => intro _; rfl
    | succ k ih =>
      intro hk
      rw [cfW, cfm, ih (by omega), h.cell (by omega)]
      cases m k <;> rfl
  exact key n (Nat.le_refl _)
theorem cfm_same {m m' : Nat → Bool} : ∀ {n : Nat}, (∀ p, p < n → m p = m' p) → cfm m n = cfm m' n
  | 0, _ => rfl
  | n + 1, h => by rw [cfm, cfm, cfm_same (fun p hp => h p (by omega)), h n (by omega)]
theorem cfm_put {m : Nat → Bool} {t : Nat} (hm : m t = false) : ∀ n, cfm (fun p => if p = t then true else m p) n + (if t < n then 1 else 0) = cfm m n
  | 0 => by simp [cfm]
  | n + 1 => by
    have ih := cfm_put hm n
    rw [cfm, cfm]
    by_cases hn : n = t
    · rw [hn] at ih ⊢
      rw [if_neg (by omega)] at ih
      rw [if_pos (show t < t + 1 by omega), if_pos (show (if t = t then true else m t) = true by simp), hm]
      simp at ih ⊢
      omega
    · have e : (if t < n + 1 then 1 else 0) = (if t < n then 1 else 0) := by
        by_cases h : t < n
        · rw [if_pos h, if_pos (by omega)]
        · rw [if_neg h, if_neg (by omega)]
      rw [e, if_neg hn]
      omega
def Closed (c : List I) (n k : Nat) (m : Nat → Bool) : Prop := ∀ j, j < k → m j = true → ∀ t, t ∈ sucC c j → t < n → m t = true
theorem closed_rch {c : List I} {n : Nat} {m : Nat → Bool} (h0 : m 0 = true) (hs : ∀ p, p < n → m p = true → rch c p = true) (hc : Closed c n n m) : ∀ p, p < n → m p = rch c p := by
  intro p
  induction p using Nat.strongRecOn with
  | _ p ih =>
    intro hp
    rw [Bool.eq_iff_iff]
    refine ⟨hs p hp, fun hr => ?_⟩
    rcases rch_iff.1 hr with rfl | ⟨j, hj, hrj, hsj⟩
    · exact h0
    · exact hc j (by omega) (by rw [ih j hj (by omega)]; exact hrj) p hsj hp
/- what holds within a pass that began with m0 -/
def Pass (c : List I) (n k : Nat) (ts : List Nat) (m0 m : Nat → Bool) (more : Bool) : Prop :=
  (more = false → (∀ p, p < n → m p = m0 p) ∧ Closed c n k m0 ∧ (m0 k = true → ∀ t, t ∈ ts → t < n → m0 t = true)) ∧ (more = true → cfm m n < cfm m0 n)
theorem Pass.le {c : List I} {n k : Nat} {ts : List Nat} {m0 m : Nat → Bool} {more : Bool} (h : Pass c n k ts m0 m more) : cfm m n ≤ cfm m0 n := by
  cases more
  · rw [cfm_same (h.1 rfl).1]
    exact Nat.le_refl _
  · exact Nat.le_of_lt (h.2 rfl)
theorem Pass.put {c : List I} {n k t : Nat} {ts ts' : List Nat} {m0 m : Nat → Bool} {more : Bool} (h : Pass c n k ts m0 m more) (ht : t < n) (hm : m t = false) : Pass c n k ts' m0 (fun p => if p = t then true else m p) true := by
  refine ⟨fun h => (by cases h), fun _ => ?_⟩
  have h1 := cfm_put hm n
  rw [if_pos ht] at h1
  have := h.le
  omega
theorem Pass.skip {c : List I} {n k j t : Nat} {ts : List Nat} {m0 m : Nat → Bool} {more : Bool} (h : Pass c n k (ts.take j) m0 m more) (hj : j < ts.length) (ht : ts.getD j 0 = t) (hs : t < n → m t = true) : Pass c n k (ts.take (j + 1)) m0 m more := by
  refine ⟨fun hmo => ?_, h.2⟩
  obtain ⟨h1, h2, h3⟩ := h.1 hmo
  refine ⟨h1, h2, fun hk x hx hxn => ?_⟩
  rw [take_getD ts j 0 hj, ht] at hx
  rcases List.mem_append.1 hx with hx | hx
  · exact h3 hk x hx hxn
  · obtain rfl : x = t := by simpa using hx
    rw [← h1 x hxn]
    exact hs hxn
theorem Pass.next {c : List I} {n k : Nat} {ts : List Nat} {m0 m : Nat → Bool} {more : Bool} (h : Pass c n k ts m0 m more) (hk : k < n) (he : m k = false ∨ ts = sucC c k) : Pass c n (k + 1) [] m0 m more := by
  refine ⟨fun hmo => ?_, h.2⟩
  obtain ⟨h1, h2, h3⟩ := h.1 hmo
  refine ⟨h1, fun j hj hm t ht htn => ?_, fun _ t ht => by simp at ht⟩
  rcases Nat.lt_succ_iff_lt_or_eq.1 hj with hj | rfl
  · exact h2 j hj hm t ht htn
  · rcases he with he | he
    · rw [h1 j hk, hm] at he
      cases he
    · exact h3 hm t (by rw [he]; exact ht) htn
/- what holds of the marks -/
def RI (w : World) (c : List I) (n G : Nat) (m : Nat → Bool) (W : World) : Prop :=
  Below w.heap.size w W ∧ Vals W G 4 n (fun p => .bool (m p)) ∧ m 0 = true ∧ ∀ p, p < n → m p = true → rch c p = true
theorem RI.later {w W W' : World} {c : List I} {n G : Nat} {m : Nat → Bool} (h : RI w c n G m W) (hb : Below W.heap.size W W') : RI w c n G m W' :=
  ⟨h.1.trans (hb.mono h.1.size), h.2.1.later hb, h.2.2⟩
theorem RI.put {w W : World} {c : List I} {n G t : Nat} {m : Nat → Bool} (h : RI w c n G m W) (hG : w.heap.size ≤ G) (ht : t < n) (hr : rch c t = true) : RI w c n G (fun p => if p = t then true else m p) (W.setCell ⟨G, t, none⟩ (.bool true)) := by
  refine ⟨h.1.setCell hG _, (h.2.1.put ht (.bool true)).same (fun p _ => ?_), ?_, fun p hp hm => ?_⟩
  · by_cases hpt : p = t <;> simp [hpt]
  · show (if 0 = t then true else m 0) = true
    split
    · rfl
    · exact h.2.2.1
  · by_cases hpt : p = t
    · rw [hpt]; exact hr
    · simp only [if_neg hpt] at hm
      exact h.2.2.2 p hp hm
set_option maxRecDepth 100000 in
set_option maxHeartbeats 8000000 in
theorem rreach_any (a : Option Addr) (len cap : Nat) (c : List I) (w : World) (h : CodeAt w a len cap c) :
    Calls Tryd.prog 16 #[.slice a len cap] w (BoolsLow (reachP c) w) := by
  have hm : len ≤ 9223372036854775807 := by have := h.2.1; have := h.2.2.1; unfold maxLen at this; omega
  have H := Lib.hid h
  have H1 := Lib.hid h.1
  obtain ⟨TS, hTS⟩ : ∃ TS, reachP c = TS := ⟨_, rfl⟩
  rw [hTS]
  have HT := Lib.hid hTS
  have k1 := rmay_any a len cap c w h
  clear hTS h
  go_enter Tryd.func16, Tryd.ntmps16
  go_wp2_with fail
  obtain ⟨Q, hQ⟩ : ∃ Q, codeB c = Q := ⟨_, rfl⟩
  rw [hQ] at k1
  have HQ := Lib.hid hQ
  clear hQ
  refine k1.mono ?_
  rintro e m1 ⟨rfl, hb1⟩
  have HB := Lib.hid hb1
  clear k1 hb1
  cases Q
  · have hT : Hid (TS = []) := Lib.hid (by rw [← HT.out, reachP, HQ.out]; simp)
    go_wp2_with fail
    go_ret
    exact ⟨none, 0, 0, rfl, HB.out, by rw [hT.out]; exact bools_nil _, fun y hy => by cases hy⟩
  have hT : Hid (TS = (List.range len).map (rch c)) := Lib.hid (by rw [← HT.out, reachP, HQ.out, H1.out]; simp)
  have h64 : len ≤ 64 ∧ 1 ≤ len := by have := codeB_len HQ.out; have := H1.out; omega
  obtain ⟨h64, h1l⟩ := h64
  have hlI : (0 : Int) < (len : Int) := by omega
  go_wp2_with (refine wpList_makeV 32 4 Tryd.underlying32 (.bool false) 1 (by omega) infoB rfl _ rfl _ _ rfl len _ rfl rfl rfl (by omega) _ rfl ?_; intro w1 hV1 hgr hlt; have hfz0 := hV1.free 0; have hcz0 := hV1.cell (p := 0) (by omega); have ea0 : (⟨m1.heap.size, 0, none⟩ : Addr).add 0 = ⟨m1.heap.size, 0, none⟩ := addr_add _ 0)
  have HB1 : Hid (Below m1.heap.size m1 w1) := Lib.hid ⟨hgr.os, hgr.tape, hgr.output, hgr.size, fun j hj => hgr.block j hj (by simp)⟩
  obtain ⟨G, hG⟩ : ∃ G, m1.heap.size = G := ⟨_, rfl⟩
  have HG : Hid (w.heap.size ≤ G) := Lib.hid (by rw [← hG]; exact HB.out.size)
  have HI0 : Hid (RI w c len G (fun p => decide (p = 0)) (w1.setCell ⟨G, 0, none⟩ (.bool true))) := Lib.hid (by
    rw [← hG]
    refine ⟨(HB.out.trans (HB1.out.mono HB.out.size)).setCell HB.out.size _, (hV1.put (t := 0) (by omega) (.bool true)).same (fun p _ => ?_), by simp, fun p _ hp => by
      obtain rfl : p = 0 := by simpa using hp
      exact rch_zero c⟩
    by_cases hp : p = 0 <;> simp [hp])
  have HLtG : Hid (G < w1.heap.size) := Lib.hid (by rw [← hG]; exact hlt)
  clear hV1 hgr hlt
  go_wp2_with fail
  rw [hG]
  generalize hW2 : w1.setCell ⟨G, 0, none⟩ (.bool true) = W2 at *
  clear hW2 hG hfz0 hcz0 ea0
  go_loopw [5] (fun mv wr => ∃ (m : Nat → Bool) (more : Bool), mv = .bool more ∧ Hid (RI w c len G m wr) ∧ Hid (more = false → Closed c len len m)) (fun mv wr => moreN mv (cfW wr G len))
  case atStart => exact ⟨_, true, rfl, HI0, Lib.hid (fun h => by cases h)⟩
  case round =>
    obtain ⟨m0, more, rfl, HI, HCl⟩ := hrel
    clear HI0
    cases more
    · have HR : Hid (BoolsAt wr (some ⟨G, 0, none⟩) len len TS) := Lib.hid (by
        rw [hT.out]
        refine Vals.bools (ty := 4) (HI.out.2.1.same (fun p hp => ?_)) (by omega)
        rw [closed_rch HI.out.2.2.1 HI.out.2.2.2 (HCl.out rfl) p hp])
      go_wp2_with fail
      go_ret
      exact ⟨_, _, _, rfl, HI.out.1, HR.out, fun y hy => by cases hy; exact HG.out⟩
    · have HMs : Hid (cfW wr G len = cfm m0 len) := Lib.hid (cf_eq HI.out.2.1)
      go_wp2_with fail
      go_loopw [5, 6] (fun mv i wr2 => ∃ (m : Nat → Bool) (more : Bool) (k : Nat), k ≤ len ∧ mv = .bool more ∧ i = .int .i64 k ∧ Hid (RI w c len G m wr2) ∧ Hid (Pass c len k [] m0 m more)) (fun _ i _ => len - (intOf i).toNat)
      case atStart => exact ⟨m0, false, 0, by omega, rfl, rfl, HI, Lib.hid ⟨fun _ => ⟨fun p _ => rfl, fun j hj => absurd hj (by omega), fun _ t ht => by simp at ht⟩, fun h => by cases h⟩⟩
      case round =>
        obtain ⟨m, more, k, hk, rfl, rfl, HI2, HP⟩ := hrel
        clear HI HCl
        have hk0 : (0 : Int) ≤ (k : Int) := Int.natCast_nonneg _
        by_cases hkl : k < len
        · have hkI : (k : Int) < (len : Int) := by omega
          have k4 := rnext_any a len cap c (k : Int) wr (H.out.below HI2.out.1)
          rw [show nextP c (k : Int) = castL (sucC c k) by rw [nextP, if_pos ⟨HQ.out, by omega, by rw [H1.out]; omega⟩]; rfl] at k4
          go_wp2_with fail
          refine k4.mono ?_
          rintro e' m4 ⟨b4, l4, cp4, rfl, hb4, hI4, hlow⟩
          have HI4 := Lib.hid (HI2.out.later hb4)
          have HN4 := Lib.hid hI4
          have HLs : Hid ((sucC c k).length = l4) := Lib.hid (by rw [← castL_len]; exact hI4.1)
          have hlm4 := hI4.max
          have HLow : Hid (∀ y, b4 = some y → y.block ≠ G) := Lib.hid (fun y hy => by have h1 := hlow y hy; have h2 := HI2.out.2.1.lt; omega)
          clear k4 hb4 hI4 hlow HI2
          go_wp2_with fail
          go_loopw [5, 8] (fun mv j wr3 => ∃ (m3 : Nat → Bool) (mo3 : Bool) (q : Nat), q ≤ l4 ∧ mv = .bool mo3 ∧ j = .int .i64 q ∧ Hid (RI w c len G m3 wr3) ∧ Hid (Pass c len k ((sucC c k).take q) m0 m3 mo3) ∧ Hid (IntsAt wr3 b4 l4 cp4 (castL (sucC c k)))) (fun _ j _ => l4 - (intOf j).toNat)
          case atStart => exact ⟨m, more, 0, by omega, rfl, rfl, HI4, Lib.hid (by rw [List.take_zero]; exact HP.out), HN4⟩
          case round =>
            obtain ⟨m3, mo3, q, hq, rfl, rfl, HI5, HP5, HN5⟩ := hrel
            clear HI4 HN4 HP
            have hq0 : (0 : Int) ≤ (q : Int) := Int.natCast_nonneg _
            have hck := HI5.out.2.1.cell hkl
            have eak : (⟨G, 0, none⟩ : Addr).add k = ⟨G, k, none⟩ := addr_add G k
            obtain ⟨v, hv⟩ : ∃ v, m3 k = v := ⟨_, rfl⟩
            rw [hv] at hck
            have HVk := Lib.hid hv
            clear hv
            by_cases hql : q < l4
            · have hqI : (q : Int) < (l4 : Int) := by omega
              cases v
              · have HPn := Lib.hid (HP5.out.next hkl (.inl HVk.out))
                go_wp2_with fail
                exact ⟨⟨m3, mo3, k + 1, by omega, rfl, by go_num, HI5, HPn⟩, by simp [intOf]; omega⟩
              · obtain ⟨y4, rfl, hy4⟩ := HN5.out.2.2.2.resolve_left (by omega)
                have hc4 := hy4 q hql
                rw [castL_getD] at hc4
                obtain ⟨t, ht⟩ : ∃ t, (sucC c k).getD q 0 = t := ⟨_, rfl⟩
                have hmem : t ∈ sucC c k := by rw [← ht]; exact getD_mem (sucC c k) q 0 (by rw [HLs.out]; exact hql)
                rw [ht] at hc4
                have HTq := Lib.hid ht
                have HMem := Lib.hid hmem
                have ht0 : (0 : Int) ≤ (t : Int) := Int.natCast_nonneg _
                clear hy4 ht hmem
                by_cases htl : t < len
                · have htI : (t : Int) < (len : Int) := by omega
                  have hct := HI5.out.2.1.cell htl
                  have hfz := HI5.out.2.1.free t
                  have eat : (⟨G, 0, none⟩ : Addr).add t = ⟨G, t, none⟩ := addr_add G t
                  obtain ⟨u, hu⟩ : ∃ u, m3 t = u := ⟨_, rfl⟩
                  rw [hu] at hct
                  have HU := Lib.hid hu
                  clear hu
                  cases u
                  · have HI6 := Lib.hid (HI5.out.put HG.out htl (rch_next (HI5.out.2.2.2 k hkl HVk.out) HMem.out))
                    have HP6 : Hid (Pass c len k ((sucC c k).take (q + 1)) m0 (fun p => if p = t then true else m3 p) true) := Lib.hid (HP5.out.put htl HU.out)
                    have HN6 := Lib.hid (HN5.out.set HLow.out t (.bool true))
                    go_wp2_with fail
                    exact ⟨⟨_, true, q + 1, by omega, rfl, by go_num, HI6, HP6, HN6⟩, by simp [intOf]; omega⟩
                  · have HP6 := Lib.hid (HP5.out.skip (by rw [HLs.out]; exact hql) HTq.out (fun _ => HU.out))
                    go_wp2_with fail
                    exact ⟨⟨m3, mo3, q + 1, by omega, rfl, by go_num, HI5, HP6, HN5⟩, by simp [intOf]; omega⟩
                · have htI : ¬ (t : Int) < (len : Int) := by omega
                  have HP6 := Lib.hid (HP5.out.skip (by rw [HLs.out]; exact hql) HTq.out (fun h => absurd h htl))
                  go_wp2_with fail
                  exact ⟨⟨m3, mo3, q + 1, by omega, rfl, by go_num, HI5, HP6, HN5⟩, by simp [intOf]; omega⟩
            · have hqI : ¬ (q : Int) < (l4 : Int) := by omega
              have HPn := Lib.hid (HP5.out.next hkl (.inr (List.take_of_length_le (by rw [HLs.out]; omega))))
              go_wp2_with fail
              exact ⟨⟨m3, mo3, k + 1, by omega, rfl, by go_num, HI5, HPn⟩, by simp [intOf]; omega⟩
        · have hkI : ¬ (k : Int) < (len : Int) := by omega
          have hke : k = len := by omega
          have HCl2 : Hid (more = false → Closed c len len m) := Lib.hid (fun hmo => by
            obtain ⟨h1, h2, _⟩ := HP.out.1 hmo
            rw [hke] at h2
            intro j hj hm9 t ht htn
            rw [h1 t htn]
            exact h2 j hj (by rw [← h1 j hj]; exact hm9) t ht htn)
          have HMs2 : Hid (more = true → cfW wr G len < cfm m0 len) := Lib.hid (fun hmo => by rw [cf_eq HI2.out.2.1]; exact HP.out.2 hmo)
          clear hke
          go_wp2_with fail
          refine ⟨⟨m, more, rfl, HI2, HCl2⟩, ?_⟩
          have h1 := HMs.out
          cases more
          · exact Nat.succ_pos _
          · have h2 := HMs2.out rfl
            exact Nat.succ_lt_succ (Nat.lt_of_lt_of_eq h2 h1.symm)
end Go.Proofs.YtdgfklmbglfbfaaDoor
