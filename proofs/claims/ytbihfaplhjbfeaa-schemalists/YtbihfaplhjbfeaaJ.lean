/-
  What is cut out of a slice of bytes; a list of schemas behind another one: 'append(s, x...)', at a step of the walk.
-/
import Derived.Test.YtbihfaplhjbfeaaM
import Derived.Deep.AppendSrc
import Derived.Deep.Upon
namespace Go.Proofs.Ytbihfaplhjbfeaa
open Go Go.RowKit

theorem SliceB.upto {w : World} {a : Option Addr} {len cap : Nat} {zs : List Int} (h : SliceB w a len cap zs) {k : Nat} (hk : k ≤ len) : SliceB w a k cap (zs.take k) := by
  obtain ⟨h1, h2, h3, h4, h5⟩ := h
  refine ⟨by rw [List.length_take]; omega, by omega, h3, fun z hz => h4 z (List.mem_of_mem_take hz), ?_⟩
  rcases h5 with h5 | ⟨x, h5, h6⟩
  · exact .inl (by omega)
  · exact .inr ⟨x, h5, bytesAt_take h6 k⟩
theorem cut_from (a : Option Addr) (len cap k n : Nat) (i : Int) (hi : i = (k : Int)) (hn : n + k = len) :
    ∃ A C, (∀ w, (Instr.sliceAt 23 (.slice a len cap) (some (.int .i64 i)) none none).run Try.prog w = .ok (.slice A n C) w) ∧ ∀ W zs, SliceB W a len cap zs → SliceB W A n C (zs.drop k) := by
  have e : n = len - k := by omega
  subst e
  exact ⟨cutB a cap k, cap - k, fun w => run_cutI a len cap k i hi (by omega) w, fun W zs h => h.cut (by omega)⟩
theorem cut_mid (a : Option Addr) (len cap k m n : Nat) (i j : Int) (hi : i = (k : Int)) (hj : j = (m : Int)) (hn : n + k = m) (hm : m ≤ len) (hc : len ≤ cap) :
    ∃ A C, (∀ w, (Instr.sliceAt 23 (.slice a len cap) (some (.int .i64 i)) (some (.int .i64 j)) none).run Try.prog w = .ok (.slice A n C) w) ∧ ∀ W zs, SliceB W a len cap zs → SliceB W A n C ((zs.take m).drop k) := by
  have e : n = m - k := by omega
  subst e
  refine ⟨cutB a cap k, cap - k, fun w => ?_, fun W zs h => (h.upto hm).cut (by omega)⟩
  have ht : Try.prog.underlying 23 = some (.slice (Try.prog.elem 23)) := by kernel_rfl
  have he : Try.prog.elem 23 = 5 := by kernel_rfl
  subst hi hj
  rw [run_sliceAt_slice w 23 _ _ _ _ ht, run_slice_lh w 23 a len cap ht .i64 .i64 k m (by omega) (by omega) (by omega), he, sizeOf5]
  simp [Result.andThen, sliced, cutB]

theorem grownBy_refl (w : World) (row : Option Nat) : w.grownBy w row := ⟨rfl, rfl, rfl, Nat.le_refl _, fun _ _ _ => rfl⟩
theorem append_none (v : Value) (n base : Nat) (xs : List Value) (w : World) (hown : w.ownsRow base 25 4 v n xs) (b : Option Addr) (cc : Nat) :
    (Builtin.append_ #[22, 22] 22 #[v, .slice b 0 cc]).run Try.prog w = .ok v w := by
  obtain ⟨jS, hiS, hy0, hy1, hy2⟩ := info_parts infoS
  have hs : Src Try.prog jS.size 22 (.slice b 0 cc) 0 [] w := by
    cases b with
    | none => exact Src.ofNil w Try.underlying22 cc
    | some ad => exact Src.ofSlice w Try.underlying22 ad 0 cc [] (by simp) (by simp) (by simp)
  obtain ⟨_, ⟨rfl, rfl⟩ | ⟨g, cap, cur, rfl, hb, hh, hc, hm, hs', ht⟩⟩ := hown
  · exact run_append_nothing w _ _ _ _ jS Try.underlying22 hiS none 0 0 (Nat.le_refl _) _ hs
  · exact run_append_nothing w _ _ _ _ jS Try.underlying22 hiS _ n cap hc _ hs
/- 'append(s, x...)' at the list of a plain region's operations: s is a row of one's own -/
theorem wpList_cat {ops : Array Oper} {rest : List Oper} {o : Oper} {a : Act} {Q : Exit → Act → World → Prop} (w : World) (hgd : o.guard = none) (s x : Operand)
    (ho : o.op = .call { callee := .builtin .append, args := #[s, x], argTypes := #[22, 22] }) (ht : o.type = 22)
    (base : Nat) (v : Value) (c d : List Sc) (b : Option Addr) (len cap : Nat) (hs : a.eval s = v) (hx : a.eval x = .slice b len cap) (hown : w.ownsRow base 25 4 v c.length (scsV c)) (hC : ScsAt w b len cap d)
    (h8 : c.length + len ≤ 8) (hbase : base ≤ w.heap.size) (B : Nat) (W : World) (hB : Below B W w) (hBb : B ≤ base)
    (h : ∀ v' w', w'.ownsRow base 25 4 v' (c ++ d).length (scsV (c ++ d)) → Below B W w' → base ≤ w'.heap.size → wpList Try.prog ops Q rest (a.put o.dst v') w') : wpList Try.prog ops Q (o :: rest) a w := by
  obtain ⟨jS, hiS, hy0, hy1, hy2⟩ := info_parts infoS
  have hd : d.length = len := hC.1
  by_cases hl : len = 0
  · subst hl
    have hd0 : d = [] := List.length_eq_zero_iff.1 hd
    subst hd0
    refine wpList_plain hgd fun K hK => ?_
    have hr := append_none v c.length base (scsV c) w hown b cap
    unfold Oper.wp execOp
    simp only [ho, ht, resolve, invoke, builtin, Sem.run_bind, Sem.run_pure, Result.andThen_ok, List.map_toArray, List.map_cons, List.map_nil, hs, hx, hr]
    exact hK _ _ (h v w (by simpa using hown) hB hbase)
  · obtain ⟨y, rfl, hy⟩ := hC.2.2.2.resolve_left hl
    refine wpList_append_lies w hgd s x 22 ho base 25 jS _ 4 32 Try.underlying22 hiS hy0 hy1 hy2 rfl (by omega) v c.length (scsV c) hs hown y len cap (scsV d) hx (by rw [scsV_len, hd]) (scsV_cells hd hy) (scsV_one d) (by omega) (by unfold maxLen; omega) (by omega) hbase w.heap.size rfl ?_
    intro g cp w' ho' hg' _ _
    refine h _ w' ?_ (hB.grown hg' (by omega) (fun k hk => by have := (hown.lt k hk).1; omega)) (Nat.le_trans hbase hg'.size)
    rw [List.length_append, hd, scsV_append]
    exact ho'
/- two lists' bytes -/
theorem encS_drop (a : List Sc) : (encS a).drop 1 = encB a := rfl
theorem encS_mid {a b : List Sc} {m : Nat} (hm : m = 1 + 5 * a.length) : ((encS (a ++ b)).take m).drop 1 = encB a := by
  subst hm
  rw [encS, encB_append, Nat.add_comm 1, List.take_succ_cons, List.drop_one, List.tail_cons, ← encB_len a, List.take_left']
  rfl
theorem encS_end {a b : List Sc} {m : Nat} (hm : m = 1 + 5 * a.length) : (encS (a ++ b)).drop m = encB b := by
  subst hm
  rw [encS, encB_append, Nat.add_comm 1, List.drop_succ_cons, ← encB_len a, List.drop_left']
  rfl
end Go.Proofs.Ytbihfaplhjbfeaa
