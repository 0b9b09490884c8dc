/-
  Ahead of InterpParts: codes grown by append, a program made of two functions, words of an array.
-/
import Derived.Test.YtilddlgcfbefiaaDoorGia
import Derived.Test.YtilddlgcfbefiaaDoorGcc
import Derived.Test.YtilddlgcfbefiaaDoorGcb
import Derived.Deep.AppendLies
import Derived.Test.YtilddlgcfbefiaaDoorGik
import Derived.Test.YtilddlgcfbefiaaDoorIT
namespace Go.Proofs.YtilddlgcfbefiaaDoor
set_option linter.unusedSimpArgs false
set_option linter.unusedVariables false
open Go Go.RowKit
theorem infoY : (Tryd.prog.info? 50).map (fun i => (i.zero, i.size, i.bytes)) = some (some (.agg #[.int .i64 0, .int .i64 0, .int .i64 0, .int .i64 0, .bool false, .int .i64 0, .int .u32 0]), 7, 56) := by kernel_rfl
def instC (i : I) : List Value := [.int .i64 i.1, .int .i64 i.2.1, .int .i64 i.2.2.1, .int .i64 i.2.2.2.1, .bool i.2.2.2.2.1, .int .i64 i.2.2.2.2.2.1, .int .u32 i.2.2.2.2.2.2]
def cellsI : List I → List Value
  | [] => []
  | i :: l => instC i ++ cellsI l
theorem cellsI_len : ∀ c : List I, (cellsI c).length = c.length * 7
  | [] => rfl
  | i :: l => by
    rw [cellsI, List.length_append, cellsI_len l, List.length_cons]
    show 7 + _ = _
    omega
theorem cellsI_append : ∀ a b : List I, cellsI (a ++ b) = cellsI a ++ cellsI b
  | [], b => rfl
  | i :: l, b => by
    show instC i ++ cellsI (l ++ b) = instC i ++ cellsI l ++ cellsI b
    rw [cellsI_append l b, List.append_assoc]
theorem cellsI_get : ∀ (c : List I) (k r : Nat), k < c.length → r < 7 → (cellsI c)[k * 7 + r]? = (instC (c.getD k zeroI))[r]?
  | [], k, r, hk, _ => absurd hk (by simp)
  | i :: l, 0, r, _, hr => by
    rw [cellsI, List.getElem?_append_left (by show 0 * 7 + r < 7; omega), Nat.zero_mul, Nat.zero_add]
    rfl
  | i :: l, k + 1, r, hk, hr => by
    rw [cellsI, List.getElem?_append_right (by show 7 ≤ (k + 1) * 7 + r; omega)]
    rw [show (k + 1) * 7 + r - (instC i).length = k * 7 + r by show (k + 1) * 7 + r - 7 = _; omega, cellsI_get l k r (by simpa using hk) hr]
    rfl
theorem cellsI_one {c : List I} {u : Value} (h : u ∈ cellsI c) : u.oneCell' = true := by
  induction c with
  | nil => simp [cellsI] at h
  | cons i l ih =>
    rcases List.mem_append.1 h with h | h
    · simp only [instC, List.mem_cons, List.not_mem_nil, or_false] at h
      rcases h with rfl | rfl | rfl | rfl | rfl | rfl | rfl <;> rfl
    · exact ih h
theorem code_ownI {W : World} {base n : Nat} {v : Value} {c : List I} (hn : c.length = n) (hok : ∀ i ∈ c, okI i) (h : W.ownsRow base 50 7 v n (cellsI c)) : ∃ b cp, v = .slice b n cp ∧ CodeAt W b n cp c := by
  have h' := h
  obtain ⟨_, ⟨rfl, h0⟩ | ⟨g, cap, cur, rfl, hb, hh, hc, hm, hs, ht⟩⟩ := h
  · exact ⟨none, 0, by rw [h0], hn, by omega, Nat.zero_le _, hok, .inl h0⟩
  · have hcell := own_cells h'
    refine ⟨_, cap, rfl, hn, hc, hm, hok, .inr ⟨_, rfl, fun k hk => ?_⟩⟩
    rw [addr_add]
    have at' : ∀ r u, r < 7 → (instC (c.getD k zeroI))[r]? = some u → W.cell? ⟨g, k * 7 + r, none⟩ = some u := fun r u hr hu => hcell _ _ ((cellsI_get c k r (by omega) hr).trans hu)
    exact ⟨at' 0 _ (by omega) rfl, at' 1 _ (by omega) rfl, at' 2 _ (by omega) rfl, at' 3 _ (by omega) rfl, at' 4 _ (by omega) rfl, at' 5 _ (by omega) rfl, at' 6 _ (by omega) rfl⟩
/- the first k of the four words -/
def cxL (c : Cx) : List Int := [c.1, c.2.1, c.2.2.1, c.2.2.2]
def cxV (c : Cx) : Array Value := #[.int .u32 c.1, .int .u32 c.2.1, .int .u32 c.2.2.1, .int .u32 c.2.2.2]
theorem cx_cell {W : World} {T k : Nat} {t : TypeId} {c : Cx} (h : Box W T t (cxV c)) (hk : k < 4) : W.cell? ⟨T, k, none⟩ = some (.int .u32 ((cxL c).getD k 0)) := by
  refine h.cell ?_
  match k, hk with
  | 0, _ => rfl
  | 1, _ => rfl
  | 2, _ => rfl
  | 3, _ => rfl
theorem cxL_w {c : Cx} (h : isW c.1 ∧ isW c.2.1 ∧ isW c.2.2.1 ∧ isW c.2.2.2) : wordL (cxL c) := fun z hz => by
  simp only [cxL, List.mem_cons, List.not_mem_nil, or_false] at hz
  rcases hz with rfl | rfl | rfl | rfl
  · exact h.1
  · exact h.2.1
  · exact h.2.2.1
  · exact h.2.2.2
theorem cx_words {W : World} {T A : Nat} {t : TypeId} {c : Cx} (h : Box W T t (cxV c)) (hA : A ≤ 4) (hw : isW c.1 ∧ isW c.2.1 ∧ isW c.2.2.1 ∧ isW c.2.2.2) : WordsAt W (some ⟨T, 0, none⟩) A 4 ((cxL c).take A) := by
  have hl : (cxL c).length = 4 := rfl
  refine ⟨by rw [List.length_take, hl]; omega, hA, by unfold maxLen; omega, fun z hz => cxL_w hw z (List.mem_of_mem_take hz), .inr ⟨_, rfl, fun i hi => ?_⟩⟩
  rw [addr_add, cx_cell h (by omega)]
  simp only [List.getD_eq_getElem?_getD, List.getElem?_take, if_pos hi]
theorem take_cx (c : Cx) {k : Nat} (hk : k < 4) : (cxL c).take (k + 1) = (cxL c).take k ++ [(cxL c).getD k 0] := take_getD _ _ _ hk
theorem movs_succ (c : Cx) {k : Nat} (hk : k < 4) : movs ((cxL c).take (k + 1)) = movs ((cxL c).take k) ++ [(0, 0, (k : Int) + 1, 0, false, 0, (cxL c).getD k 0)] := by
  have l1 : ((cxL c).take (k + 1)).length = k + 1 := by rw [List.length_take]; show min (k + 1) 4 = k + 1; omega
  have l0 : ((cxL c).take k).length = k := by rw [List.length_take]; show min k 4 = k; omega
  unfold movs
  rw [l1, l0, List.range_succ, List.map_append]
  congr 1
  · refine List.map_congr_left (fun i hi => ?_)
    rw [List.mem_range] at hi
    simp only [List.getD_eq_getElem?_getD, List.getElem?_take, if_pos hi, if_pos (show i < k + 1 by omega)]
  · show [((0 : Int), (0 : Int), (k : Int) + 1, (0 : Int), false, (0 : Int), ((cxL c).take (k + 1)).getD k 0)] = _
    simp only [List.getD_eq_getElem?_getD, List.getElem?_take, if_pos (show k < k + 1 by omega)]
theorem callC_ok {keep : Int} {zs : List Int} (hk : isW keep) (hz : wordL zs) : ∀ i ∈ callC keep zs, okI i := fun i hi => by
  unfold callC at hi
  rcases List.mem_cons.1 hi with rfl | hi
  · exact ⟨hk.1, by have := hk.2; show keep ≤ _; omega⟩
  · rcases List.mem_append.1 hi with hi | hi
    · obtain ⟨j, _, rfl⟩ := List.mem_map.1 hi
      have := wordL_getD hz j
      exact ⟨this.1, by have := this.2; show zs.getD j 0 ≤ _; omega⟩
    · simp only [List.mem_cons, List.not_mem_nil, or_false] at hi
      rcases hi with rfl | rfl | rfl <;> exact ⟨by decide, by decide⟩
theorem two_fns {W : World} {g : Nat} {t : TypeId} {b b' : Option Addr} {l c l' c' : Nat} {args : Int} {code code' : List I} (h : Box W g t #[.int .i64 0, .slice b l c, .int .i64 args, .slice b' l' c']) (h1 : CodeAt W b l c code) (h2 : CodeAt W b' l' c' code') : FnsAt W (some ⟨g, 0, none⟩) 2 2 [(0, code), (args, code')] := by
  refine ⟨rfl, Nat.le_refl _, by unfold maxLen; omega, .inr ⟨_, rfl, fun k hk => ?_⟩⟩
  rw [addr_add]
  match k, hk with
  | 0, _ => exact ⟨h.cell rfl, b, l, c, h.cell rfl, h1⟩
  | 1, _ => exact ⟨h.cell rfl, b', l', c', h.cell rfl, h2⟩
theorem own_alloc (w : World) (cs : Array Value) (e : TypeId) (n size : Nat) (hs : cs.size = n * size) (hn : n ≤ maxLen) : (w.alloc (.cells cs e)).ownsRow w.heap.size e size (.slice (some ⟨w.heap.size, 0, none⟩) n n) n cs.toList :=
  ⟨by simp [hs], .inr ⟨w.heap.size, n, cs, rfl, Nat.le_refl _, heap_alloc_new w _, Nat.le_refl _, hn, hs, List.take_of_length_le (by simp [hs])⟩⟩
theorem parts_prog (w : World) {b b' : Option Addr} {l c l' c' : Nat} {code code' : List I} (args : Int) (h1 : CodeAt w b l c code) (h2 : CodeAt w b' l' c' code') : ∃ W, (w.alloc (.cells #[.int .i64 0, .slice b l c, .int .i64 args, .slice b' l' c'] 47)).alloc (.cells #[.slice (some ⟨w.heap.size, 0, none⟩) 2 2] 24) = W ∧ Below w.heap.size w W ∧ FnsAt W (some ⟨w.heap.size, 0, none⟩) 2 2 [(0, code), (args, code')] ∧ Box W (w.heap.size + 1) 24 #[.slice (some ⟨w.heap.size, 0, none⟩) 2 2] := by
  have hb := box2 (Below.refl w.heap.size w) (Nat.le_refl _) (.cells #[.int .i64 0, .slice b l c, .int .i64 args, .slice b' l' c'] 47) (.cells #[.slice (some ⟨w.heap.size, 0, none⟩) 2 2] 24)
  refine ⟨_, rfl, hb, two_fns ((Box.new w _ _).alloc _) (h1.below hb) (h2.below hb), ?_⟩
  have h := Box.new (w.alloc (.cells #[.int .i64 0, .slice b l c, .int .i64 args, .slice b' l' c'] 47)) 24 #[.slice (some ⟨w.heap.size, 0, none⟩) 2 2]
  rwa [show (w.alloc (.cells #[.int .i64 0, .slice b l c, .int .i64 args, .slice b' l' c'] 47)).heap.size = w.heap.size + 1 by simp] at h
/- the law's three arguments in variables: a function, an environment, four words -/
structure Ap (w W : World) (g : Int) (a : Option Addr) (len cap : Nat) (code : List I) (c : Cx) (a' : Option Addr) (len' cap' : Nat) (sd : Int) (ts : List Tb) (d : Cx) : Prop where
  below : Below w.heap.size w W
  rows : RowsIn W
  fnb : Box W w.heap.size 47 #[.int .i64 g, .slice a len cap]
  env : Box W (w.heap.size + 1) 29 #[.int .u32 c.1, .int .u32 c.2.1, .int .u32 c.2.2.1, .int .u32 c.2.2.2, .slice a' len' cap', .int .u32 sd]
  cx : Box W (w.heap.size + 1 + 1) 26 (cxV d)
  code : CodeAt W a len cap code
  tabs : TabsAt W a' len' cap' ts
section
variable {w W W' : World} {g : Int} {a : Option Addr} {len cap : Nat} {code : List I} {c : Cx} {a' : Option Addr} {len' cap' : Nat} {sd : Int} {ts : List Tb} {d : Cx}
theorem Ap.later (h : Ap w W g a len cap code c a' len' cap' sd ts d) (hb : Below W.heap.size W W') : Ap w W' g a len cap code c a' len' cap' sd ts d :=
  ⟨h.below.trans (hb.mono h.below.size), h.rows.later hb, h.fnb.later hb, h.env.later hb, h.cx.later hb, h.code.below hb, h.tabs.below hb⟩
theorem Ap.begin (g : Int) (c : Cx) (sd : Int) (d : Cx) (hr : RowsIn w) (hC : CodeAt w a len cap code) (hT : TabsAt w a' len' cap' ts) : ∃ W, ((w.alloc (.cells #[.int .i64 g, .slice a len cap] 47)).alloc (.cells #[.int .u32 c.1, .int .u32 c.2.1, .int .u32 c.2.2.1, .int .u32 c.2.2.2, .slice a' len' cap', .int .u32 sd] 29)).alloc (.cells #[.int .u32 d.1, .int .u32 d.2.1, .int .u32 d.2.2.1, .int .u32 d.2.2.2] 26) = W ∧ Ap w W g a len cap code c a' len' cap' sd ts d := by
  have hb : Below w.heap.size w (((w.alloc (.cells #[.int .i64 g, .slice a len cap] 47)).alloc (.cells #[.int .u32 c.1, .int .u32 c.2.1, .int .u32 c.2.2.1, .int .u32 c.2.2.2, .slice a' len' cap', .int .u32 sd] 29)).alloc (.cells #[.int .u32 d.1, .int .u32 d.2.1, .int .u32 d.2.2.1, .int .u32 d.2.2.2] 26)) := (box2 (Below.refl _ _) (Nat.le_refl _) _ _).alloc (by simp; omega) _
  refine ⟨_, rfl, hb, hr.later hb, ((Box.new w _ _).alloc _).alloc _, ?_, ?_, hC.below hb, hT.below hb⟩
  · have h1 := Box.new (w.alloc (.cells #[.int .i64 g, .slice a len cap] 47)) 29 #[.int .u32 c.1, .int .u32 c.2.1, .int .u32 c.2.2.1, .int .u32 c.2.2.2, .slice a' len' cap', .int .u32 sd]
    rw [show (w.alloc (.cells #[.int .i64 g, .slice a len cap] 47)).heap.size = w.heap.size + 1 by simp] at h1
    exact h1.alloc _
  · have h2 := Box.new ((w.alloc (.cells #[.int .i64 g, .slice a len cap] 47)).alloc (.cells #[.int .u32 c.1, .int .u32 c.2.1, .int .u32 c.2.2.1, .int .u32 c.2.2.2, .slice a' len' cap', .int .u32 sd] 29)) 26 #[.int .u32 d.1, .int .u32 d.2.1, .int .u32 d.2.2.1, .int .u32 d.2.2.2]
    rwa [show ((w.alloc (.cells #[.int .i64 g, .slice a len cap] 47)).alloc (.cells #[.int .u32 c.1, .int .u32 c.2.1, .int .u32 c.2.2.1, .int .u32 c.2.2.2, .slice a' len' cap', .int .u32 sd] 29)).heap.size = w.heap.size + 1 + 1 by simp] at h2
theorem Ap.cells (h : Ap w W g a len cap code c a' len' cap' sd ts d) : W.cell? ⟨w.heap.size, 0, none⟩ = some (.int .i64 g) ∧ W.cell? ⟨w.heap.size, 1, none⟩ = some (.slice a len cap) ∧ W.cell? ⟨w.heap.size + 1, 0, none⟩ = some (.int .u32 c.1) ∧ W.cell? ⟨w.heap.size + 1, 1, none⟩ = some (.int .u32 c.2.1) ∧ W.cell? ⟨w.heap.size + 1, 2, none⟩ = some (.int .u32 c.2.2.1) ∧ W.cell? ⟨w.heap.size + 1, 3, none⟩ = some (.int .u32 c.2.2.2) ∧ W.cell? ⟨w.heap.size + 1, 4, none⟩ = some (.slice a' len' cap') ∧ W.cell? ⟨w.heap.size + 1, 5, none⟩ = some (.int .u32 sd) :=
  ⟨h.fnb.cell rfl, h.fnb.cell rfl, h.env.cell rfl, h.env.cell rfl, h.env.cell rfl, h.env.cell rfl, h.env.cell rfl, h.env.cell rfl⟩
end
end Go.Proofs.YtilddlgcfbefiaaDoor
