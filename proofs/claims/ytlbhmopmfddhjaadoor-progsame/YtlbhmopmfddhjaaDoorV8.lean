/-
  A program with one instruction changed, in plain lists and in memory.
-/
import Derived.Test.YtlbhmopmfddhjaaDoorZ8
import Derived.Test.YtlbhmopmfddhjaaDoorV5
namespace Go.Proofs.YtlbhmopmfddhjaaDoor
open Go.RowKit

def St8 (w W : World) (a : Option Addr) (len cap : Nat) (o f d s : Int) (r : Bool) (x m : Int) : Prop :=
  Below w.heap.size w W ∧ RowsIn w ∧ Box W w.heap.size 24 #[.slice a len cap] ∧ Box W (w.heap.size + 1) 46 #[.int .i64 o, .int .i64 f, .int .i64 d, .int .i64 s, .bool r, .int .i64 x, .int .u32 m]
section
variable {w W W' : World} {a : Option Addr} {len cap : Nat} {o f d s : Int} {r : Bool} {x m : Int}
theorem St8.start (hR : RowsIn w) : St8 w ((w.alloc (.cells #[.slice a len cap] 24)).alloc (.cells #[.int .i64 o, .int .i64 f, .int .i64 d, .int .i64 s, .bool r, .int .i64 x, .int .u32 m] 46)) a len cap o f d s r x m := by
  have h1 := Box.new (w.alloc (.cells #[.slice a len cap] 24)) 46 #[.int .i64 o, .int .i64 f, .int .i64 d, .int .i64 s, .bool r, .int .i64 x, .int .u32 m]
  rw [show (w.alloc (.cells #[.slice a len cap] 24)).heap.size = w.heap.size + 1 by simp] at h1
  exact ⟨((Below.refl _ _).alloc (Nat.le_refl _) _).alloc (by simp) _, hR, (Box.new w 24 _).alloc _, h1⟩
theorem St8.later (h : St8 w W a len cap o f d s r x m) (hb : Below W.heap.size W W') : St8 w W' a len cap o f d s r x m :=
  ⟨h.1.trans (hb.mono h.1.size), h.2.1, h.2.2.1.below hb h.2.2.1.lt, h.2.2.2.below hb h.2.2.2.lt⟩
theorem St8.grown {row : Option Nat} (h : St8 w W a len cap o f d s r x m) (hg : W.grownBy W' row) (hr : ∀ k, row = some k → w.heap.size + 1 < k) : St8 w W' a len cap o f d s r x m :=
  ⟨h.1.grown hg (by have := h.1.size; omega) (fun k hk => by have := hr k hk; omega), h.2.1, h.2.2.1.grown hg (fun e => by have := hr _ e.symm; omega), h.2.2.2.grown hg (fun e => by have := hr _ e.symm; omega)⟩
theorem St8.rows (h : St8 w W a len cap o f d s r x m) : RowsIn W := h.2.1.later h.1
theorem St8.c0 (h : St8 w W a len cap o f d s r x m) : W.cell? ⟨w.heap.size, 0, none⟩ = some (.slice a len cap) := h.2.2.1.cell rfl
theorem St8.x0 (h : St8 w W a len cap o f d s r x m) : W.cell? ⟨w.heap.size + 1, 0, none⟩ = some (.int .i64 o) ∧ W.cell? ⟨w.heap.size + 1, 1, none⟩ = some (.int .i64 f) ∧ W.cell? ⟨w.heap.size + 1, 2, none⟩ = some (.int .i64 d) ∧ W.cell? ⟨w.heap.size + 1, 3, none⟩ = some (.int .i64 s) ∧
    W.cell? ⟨w.heap.size + 1, 4, none⟩ = some (.bool r) ∧ W.cell? ⟨w.heap.size + 1, 5, none⟩ = some (.int .i64 x) ∧ W.cell? ⟨w.heap.size + 1, 6, none⟩ = some (.int .u32 m) :=
  ⟨h.2.2.2.cell rfl, h.2.2.2.cell rfl, h.2.2.2.cell rfl, h.2.2.2.cell rfl, h.2.2.2.cell rfl, h.2.2.2.cell rfl, h.2.2.2.cell rfl⟩
end
/- seven cells stored into the row of block gc from p on -/
def set7 (W : World) (gc p : Nat) (o f d s : Int) (r : Bool) (x m : Int) : World :=
  ((((((W.setCell ⟨gc, p, none⟩ (.int .i64 o)).setCell ⟨gc, p + 1, none⟩ (.int .i64 f)).setCell ⟨gc, p + 2, none⟩ (.int .i64 d)).setCell ⟨gc, p + 3, none⟩ (.int .i64 s)).setCell ⟨gc, p + 4, none⟩ (.bool r)).setCell ⟨gc, p + 5, none⟩ (.int .i64 x)).setCell ⟨gc, p + 6, none⟩ (.int .u32 m)
def list7 (l : List Value) (p : Nat) (o f d s : Int) (r : Bool) (x m : Int) : List Value :=
  ((((((l.set p (.int .i64 o)).set (p + 1) (.int .i64 f)).set (p + 2) (.int .i64 d)).set (p + 3) (.int .i64 s)).set (p + 4) (.bool r)).set (p + 5) (.int .i64 x)).set (p + 6) (.int .u32 m)
theorem own_set7 {W : World} {base gc n cap : Nat} {xs : List Value} (h : W.ownsRow base 46 7 (.slice (some ⟨gc, 0, none⟩) n cap) n xs) (p : Nat) (o f d s : Int) (r : Bool) (x m : Int) :
    (set7 W gc p o f d s r x m).ownsRow base 46 7 (.slice (some ⟨gc, 0, none⟩) n cap) n (list7 xs p o f d s r x m) ∧ W.grownBy (set7 W gc p o f d s r x m) (some gc) := by
  obtain ⟨h0, g0⟩ := h.stored p (.int .i64 o)
  obtain ⟨h1, g1⟩ := h0.stored (p + 1) (.int .i64 f)
  obtain ⟨h2, g2⟩ := h1.stored (p + 2) (.int .i64 d)
  obtain ⟨h3, g3⟩ := h2.stored (p + 3) (.int .i64 s)
  obtain ⟨h4, g4⟩ := h3.stored (p + 4) (.bool r)
  obtain ⟨h5, g5⟩ := h4.stored (p + 5) (.int .i64 x)
  obtain ⟨h6, g6⟩ := h5.stored (p + 6) (.int .u32 m)
  exact ⟨h6, (((((g0.trans g1).trans g2).trans g3).trans g4).trans g5).trans g6⟩
theorem codeV_set (c : List I) (k : Nat) (hk : k < c.length) (o f d s : Int) (r : Bool) (x m : Int) : list7 (codeV c) (k * 7) o f d s r x m = codeV (c.set k (o, f, d, s, r, x, m)) := by
  apply List.ext_getElem?
  intro j
  have hl : (codeV c).length = c.length * 7 := codeV_len c
  by_cases hj : j < c.length * 7
  · have e : j = j / 7 * 7 + j % 7 := by omega
    have hq : j / 7 < c.length := by omega
    have hr : j % 7 < 7 := Nat.mod_lt _ (by omega)
    have hR : (codeV (c.set k (o, f, d, s, r, x, m)))[j]? = (instC ((c.set k (o, f, d, s, r, x, m)).getD (j / 7) zeroI))[j % 7]? := by
      conv => lhs; rw [e]
      exact codeV_at _ _ _ (by rw [List.length_set]; exact hq) hr
    have hL : (codeV c)[j]? = (instC (c.getD (j / 7) zeroI))[j % 7]? := by
      conv => lhs; rw [e]
      exact codeV_at _ _ _ hq hr
    rw [hR]
    by_cases hkq : k = j / 7
    · have hg : (c.set k (o, f, d, s, r, x, m)).getD (j / 7) zeroI = (o, f, d, s, r, x, m) := by
        rw [← hkq]
        simp [List.getD_eq_getElem?_getD, hk]
      rw [hg]
      have hjk : j = k * 7 + j % 7 := by omega
      have h7 : j % 7 = 0 ∨ j % 7 = 1 ∨ j % 7 = 2 ∨ j % 7 = 3 ∨ j % 7 = 4 ∨ j % 7 = 5 ∨ j % 7 = 6 := by omega
      unfold list7
      rcases h7 with h | h | h | h | h | h | h <;> rw [h] at hjk ⊢ <;> subst hjk <;> simp [List.getElem?_set, instC, hl] <;> omega
    · have hg : (c.set k (o, f, d, s, r, x, m)).getD (j / 7) zeroI = c.getD (j / 7) zeroI := by
        simp [List.getD_eq_getElem?_getD, hkq]
      rw [hg, ← hL]
      unfold list7
      rw [List.getElem?_set_ne (by omega), List.getElem?_set_ne (by omega), List.getElem?_set_ne (by omega), List.getElem?_set_ne (by omega), List.getElem?_set_ne (by omega), List.getElem?_set_ne (by omega), List.getElem?_set_ne (by omega)]
  · rw [List.getElem?_eq_none (by simp [list7, hl]; omega), List.getElem?_eq_none (by rw [codeV_len, List.length_set]; omega)]
/- one instruction changed in a program in rows of its own -/
theorem changed {W : World} {base gc l cpc : Nat} {row : Option Nat} {xs : List Value} {fs : List Fun} (h : Owned W base row xs fs) {i k : Nat} {args : Int} {code : List I} (hi : i < fs.length) (hf : fs.getD i zeroF = (args, code)) (hk : k < code.length) (hx : xs[i * 2 + 1]? = some (.slice (some ⟨gc, 0, none⟩) l cpc)) (o f d s : Int) (r : Bool) (x m : Int) (hm : 0 ≤ m ∧ m ≤ 4294967295) :
    Codes (set7 W gc (k * 7) o f d s r x m) base row xs (fs.set i (args, code.set k (o, f, d, s, r, x, m))) ∧ W.grownBy (set7 W gc (k * 7) o f d s r x m) (some gc) ∧ l = code.length ∧ base ≤ gc ∧ some gc ≠ row := by
  obtain ⟨ha, cv, hx', ho, hok, hne⟩ := h.2.1 i hi
  rw [hx] at hx'
  obtain rfl := Option.some.inj hx'
  rw [hf] at ho hok ha
  simp only at ho hok ha
  have hl : l = code.length := by
    rcases ho.2 with ⟨h1, _⟩ | ⟨gg, cap', cur, hv, _⟩
    · cases h1
    · simp only [Value.slice.injEq] at hv
      exact hv.2.1
  subst hl
  obtain ⟨hS, hg⟩ := own_set7 ho (k * 7) o f d s r x m
  rw [codeV_set code k hk] at hS
  have hne' := hne gc rfl
  have hlt := ho.lt gc rfl
  refine ⟨⟨by rw [List.length_set]; exact h.1, fun j hj => ?_⟩, hg, rfl, hlt.1, hne'⟩
  rw [List.length_set] at hj
  by_cases hij : i = j
  · subst hij
    rw [set_getD_self fs i _ hj]
    refine ⟨ha, _, hx, ?_⟩
    obtain ⟨b, cap, hv, hC, hz⟩ := code_own (c := code.set k (o, f, d, s, r, x, m)) (n := code.length) (by rw [List.length_set]) (fun y hy => by
      rcases List.mem_or_eq_of_mem_set hy with hy | rfl
      · exact hok y hy
      · exact hm) hS
    exact ⟨b, _, cap, hv, hC, fun z hz' => ⟨(hz z hz').1, (hz z hz').2.1, by
      have e := (hz z hz').2.2
      have e' : gc = z.block := Option.some.inj e
      rw [← e']
      exact hne'⟩⟩
  · rw [set_getD_other fs i j _ hij]
    obtain ⟨ha2, cv2, hx2, ho2, hok2, hne2⟩ := h.2.1 j hj
    have ho3 := ho2.kept hg (by
      cases hc : cv2.ownBlock with
      | none => exact .inl rfl
      | some g2 => exact .inr (fun e => h.2.2 i j _ cv2 gc hi hj hij hx hx2 rfl (hc.trans e)))
    obtain ⟨b, cap, hv, hC, hz⟩ := code_own rfl hok2 ho3
    exact ⟨ha2, cv2, hx2, b, _, cap, hv, hC, fun z hz' => ⟨(hz z hz').1, (hz z hz').2.1, hne2 z.block (hz z hz').2.2⟩⟩
theorem encC_set_len (c : List I) (k : Nat) (x : I) : (encC (c.set k x)).length = (encC c).length := by rw [encC_len, encC_len, List.length_set]
theorem encFs_len_map : ∀ (fs gs : List Fun), fs.map (fun f => f.2.length) = gs.map (fun f => f.2.length) → (encFs fs).length = (encFs gs).length
  | [], [], _ => rfl
  | f :: fs, g :: gs, h => by
    simp only [List.map_cons, List.cons.injEq] at h
    have h1 := encFs_len_map fs gs h.2
    have e1 : encFs (f :: fs) = encF f ++ encFs fs := by simp [encFs]
    have e2 : encFs (g :: gs) = encF g ++ encFs gs := by simp [encFs]
    rw [e1, e2, List.length_append, List.length_append, encF_len, encF_len, h1, h.1]
  | [], _ :: _, h => by simp at h
  | _ :: _, [], h => by simp at h
theorem changed_len {fs : List Fun} {i k : Nat} {args : Int} {code : List I} (hi : i < fs.length) (hf : fs.getD i zeroF = (args, code)) (x : I) : (encP (fs.set i (args, code.set k x))).length = (encP fs).length := by
  have h1 : (fs.set i (args, code.set k x)).map (fun f => f.2.length) = fs.map (fun f => f.2.length) := by
    rw [List.map_set]
    simp only [List.length_set]
    have h2 : fs[i] = (args, code) := by
      rw [← hf, List.getD_eq_getElem?_getD, List.getElem?_eq_getElem hi]
      rfl
    have h3 : (fs.map (fun f => f.2.length))[i]'(by simpa using hi) = code.length := by simp [h2]
    rw [← h3]
    exact List.set_getElem_self _
  have h2 := encFs_len_map _ _ h1
  simp only [encP, List.length_cons, h2]
theorem changed_ne {fs : List Fun} {i k : Nat} {args : Int} {code : List I} (hi : i < fs.length) (hf : fs.getD i zeroF = (args, code)) (hk : k < code.length) {x : I} (hx : code.getD k zeroI ≠ x) : fs ≠ fs.set i (args, code.set k x) := by
  intro e
  have h1 := congrArg (fun l : List Fun => l.getD i zeroF) e
  simp only [set_getD_self fs i _ hi, hf, Prod.mk.injEq, true_and] at h1
  apply hx
  have h2 : code.getD k zeroI = (code.set k x).getD k zeroI := congrArg (fun l : List I => l.getD k zeroI) h1
  rw [h2]
  simp [List.getD_eq_getElem?_getD, hk]
end Go.Proofs.YtlbhmopmfddhjaaDoor
