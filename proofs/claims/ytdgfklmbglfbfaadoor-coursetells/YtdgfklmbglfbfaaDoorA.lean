/-
  What package inst's May returns, as a contract over the translated program: within, allowsOperand, allows, May.
-/
import Derived.Test.YtdgfklmbglfbfaaDoorRows
import Derived.WalkKit
import Derived.ProofKit
import Derived.OpenShut
import Derived.WalkSpells
import Derived.WalkLawsBesides
import Derived.Outline
import Derived.Lib.Hide
import Derived.Below
import Derived.Test.YtdgfklmbglfbfaaDoorPlain
namespace Go.Proofs.YtdgfklmbglfbfaaDoor
open Go.RowKit

abbrev instV (o f d s : Int) (r : Bool) (x m : Int) : Value := .agg #[.int .i64 o, .int .i64 f, .int .i64 d, .int .i64 s, .bool r, .int .i64 x, .int .u32 m]

theorem within_any (n lo hi : Int) (w : World) : Calls Tryd.prog 52 #[.int .i64 n, .int .i64 lo, .int .i64 hi] w fun e w' => e = .returned (.bool (wthn n lo hi)) ∧ w = w' := by
  by_cases h : lo ≤ n
  · go_enter Tryd.func52, Tryd.ntmps52
    go_wp2
    go_ret
    exact ⟨by simp [wthn, h], rfl⟩
  · go_enter Tryd.func52, Tryd.ntmps52
    go_wp2
    go_ret
    exact ⟨by simp [wthn]; omega, rfl⟩
theorem grown_trans {a b c : World} (h : Grown a b) (k : Grown b c) : Grown a c :=
  ⟨World.keptBut_trans h.1 k.1, fun x => (k.2.1 x).trans (h.2.1 x), Nat.le_trans h.2.2 k.2.2⟩

theorem opnd_any (ro rl rh rR : Int) (rm : Bool) (rO rM o f d s : Int) (r : Bool) (x m : Int) (w : World) :
    Calls Tryd.prog 53 #[instV ro rl rh rR rm rO rM, instV o f d s r x m] w fun e w' => e = .returned (.bool (opnd rR rm rM s r m)) ∧ Below w.heap.size w w' := by
  have hg : Below w.heap.size w ((w.alloc (.cells #[.int .i64 ro, .int .i64 rl, .int .i64 rh, .int .i64 rR, .bool rm, .int .i64 rO, .int .u32 rM] 87)).alloc (.cells #[.int .i64 o, .int .i64 f, .int .i64 d, .int .i64 s, .bool r, .int .i64 x, .int .u32 m] 53)) :=
    ((Below.refl _ _).alloc (Nat.le_refl _) _).alloc (by simp) _
  cases r
  · by_cases h : s = 0
    · subst h
      go_enter Tryd.func53, Tryd.ntmps53
      go_wp2
      go_ret
      exact ⟨by simp [opnd], hg⟩
    · have h1 : (s == 0) = false := by simpa using h
      clear h
      go_enter Tryd.func53, Tryd.ntmps53
      go_wp2
      go_ret
      exact ⟨by simp [opnd, h1], hg⟩
  · cases rm
    · go_enter Tryd.func53, Tryd.ntmps53
      go_wp2
      go_ret
      exact ⟨by simp [opnd], hg⟩
    · cases h : wthn s 0 rR
      · go_enter Tryd.func53, Tryd.ntmps53
        go_wp2_with (go_at_call 52; refine (within_any _ _ _ _).mono ?_; rintro e w' ⟨rfl, rfl⟩)
        go_ret
        exact ⟨by simp [opnd, h], hg⟩
      · go_enter Tryd.func53, Tryd.ntmps53
        go_wp2_with (go_at_call 52; refine (within_any _ _ _ _).mono ?_; rintro e w' ⟨rfl, rfl⟩)
        go_ret
        exact ⟨by simp [opnd, h], hg⟩
theorem alw_any (ro rl rh rR : Int) (rm : Bool) (rO rM o f d s : Int) (r : Bool) (x m : Int) (w : World) :
    Calls Tryd.prog 42 #[instV ro rl rh rR rm rO rM, instV o f d s r x m] w fun e w' => e = .returned (.bool (alw ro rl rh rR rm rO rM o f d s r x m)) ∧ Below w.heap.size w w' := by
  have hg : Below w.heap.size w ((w.alloc (.cells #[.int .i64 ro, .int .i64 rl, .int .i64 rh, .int .i64 rR, .bool rm, .int .i64 rO, .int .u32 rM] 87)).alloc (.cells #[.int .i64 o, .int .i64 f, .int .i64 d, .int .i64 s, .bool r, .int .i64 x, .int .u32 m] 53)) :=
    ((Below.refl _ _).alloc (Nat.le_refl _) _).alloc (by simp) _
  rcases h1 : (o == ro) with _ | _
  · go_enter Tryd.func42, Tryd.ntmps42
    go_wp2_with (first | (go_at_call 52; refine (within_any _ _ _ _).mono ?_; rintro e w' ⟨rfl, rfl⟩) | (go_at_call 53; refine (opnd_any _ _ _ _ _ _ _ _ _ _ _ _ _ _ _).mono ?_; rintro e w' ⟨rfl, hg2⟩; replace hg := hg.trans (hg2.mono hg.size); clear hg2))
    go_ret
    exact ⟨by simp [alw, h1], hg⟩
  rcases h2 : wthn f rl rh with _ | _
  · go_enter Tryd.func42, Tryd.ntmps42
    go_wp2_with (first | (go_at_call 52; refine (within_any _ _ _ _).mono ?_; rintro e w' ⟨rfl, rfl⟩) | (go_at_call 53; refine (opnd_any _ _ _ _ _ _ _ _ _ _ _ _ _ _ _).mono ?_; rintro e w' ⟨rfl, hg2⟩; replace hg := hg.trans (hg2.mono hg.size); clear hg2))
    go_ret
    exact ⟨by simp [alw, h2], hg⟩
  rcases h3 : wthn d 0 rR with _ | _
  · go_enter Tryd.func42, Tryd.ntmps42
    go_wp2_with (first | (go_at_call 52; refine (within_any _ _ _ _).mono ?_; rintro e w' ⟨rfl, rfl⟩) | (go_at_call 53; refine (opnd_any _ _ _ _ _ _ _ _ _ _ _ _ _ _ _).mono ?_; rintro e w' ⟨rfl, hg2⟩; replace hg := hg.trans (hg2.mono hg.size); clear hg2))
    go_ret
    exact ⟨by simp [alw, h3], hg⟩
  rcases h4 : wthn x 0 rO with _ | _
  · go_enter Tryd.func42, Tryd.ntmps42
    go_wp2_with (first | (go_at_call 52; refine (within_any _ _ _ _).mono ?_; rintro e w' ⟨rfl, rfl⟩) | (go_at_call 53; refine (opnd_any _ _ _ _ _ _ _ _ _ _ _ _ _ _ _).mono ?_; rintro e w' ⟨rfl, hg2⟩; replace hg := hg.trans (hg2.mono hg.size); clear hg2))
    go_ret
    exact ⟨by simp [alw, h4], hg⟩
  · go_enter Tryd.func42, Tryd.ntmps42
    go_wp2_with (first | (go_at_call 52; refine (within_any _ _ _ _).mono ?_; rintro e w' ⟨rfl, rfl⟩) | (go_at_call 53; refine (opnd_any _ _ _ _ _ _ _ _ _ _ _ _ _ _ _).mono ?_; rintro e w' ⟨rfl, hg2⟩; replace hg := hg.trans (hg2.mono hg.size); clear hg2))
    go_ret
    exact ⟨by simp [alw, h1, h2, h3, h4], hg⟩
end Go.Proofs.YtdgfklmbglfbfaaDoor
