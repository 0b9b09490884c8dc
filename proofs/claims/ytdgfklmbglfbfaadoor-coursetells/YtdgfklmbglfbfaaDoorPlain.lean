/-
  Package inst in plain numbers: which instructions the table of rows allows, which the chapter's definition allows, and that these are the same.
-/
namespace Go.Proofs.YtdgfklmbglfbfaaDoor

def wthn (n lo hi : Int) : Bool := decide (lo ≤ n) && decide (n ≤ hi)
def opnd (rR : Int) (rm : Bool) (rM s : Int) (r : Bool) (m : Int) : Bool :=
  if r then rm && (wthn s 0 rR && (m == 0)) else (s == 0) && decide (m ≤ rM)
def alw (ro rl rh rR : Int) (rm : Bool) (rO rM o f d s : Int) (r : Bool) (x m : Int) : Bool :=
  (o == ro) && (wthn f rl rh && (wthn d 0 rR && (wthn x 0 rO && opnd rR rm rM s r m)))

/- the nine rows: Op, least Fn, greatest Fn, greatest register, whether Reg may be, greatest Off, greatest Imm -/
def rOp : Nat → Int | 0 => 0 | 1 => 1 | 2 => 1 | 3 => 2 | 4 => 3 | 5 => 4 | 6 => 5 | 7 => 6 | _ => 7
def rLo : Nat → Int | 2 => 1 | _ => 0
def rHi : Nat → Int | 0 => 10 | 2 => 4 | _ => 0
def rRg : Nat → Int | 0 => 7 | 2 => 7 | 3 => 7 | 4 => 7 | 5 => 7 | _ => 0
def rMr : Nat → Bool | 0 => true | 2 => true | 3 => true | 4 => true | 5 => true | _ => false
def rOf : Nat → Int | 1 => 65535 | 2 => 65535 | _ => 0
def rIm : Nat → Int | 1 => 0 | 8 => 0 | _ => 4294967295

def alwK (k : Nat) (o f d s : Int) (r : Bool) (x m : Int) : Bool := alw (rOp k) (rLo k) (rHi k) (rRg k) (rMr k) (rOf k) (rIm k) o f d s r x m
def mayB (o f d s : Int) (r : Bool) (x m : Int) : Bool := (List.range 9).any fun k => alwK k o f d s r x m

theorem mayB_true {k : Nat} {o f d s : Int} {r : Bool} {x m : Int} (hk : k < 9) (h : alwK k o f d s r x m = true) : mayB o f d s r x m = true := by
  simp only [mayB, List.any_eq_true]
  exact ⟨k, by simp [hk], h⟩
theorem mayB_false {o f d s : Int} {r : Bool} {x m : Int} (h : ∀ k, k < 9 → alwK k o f d s r x m = false) : mayB o f d s r x m = false := by
  simp only [mayB, List.any_eq_false]
  intro k hk
  simp [h k (by simpa using hk)]

end Go.Proofs.YtdgfklmbglfbfaaDoor
