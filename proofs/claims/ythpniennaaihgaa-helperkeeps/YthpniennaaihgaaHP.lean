/-
  Environments in plain numbers: how many words a helper has, which schemas it fits, what it makes of an environment.
-/
import Derived.Test.YthpniennaaihgaaPL4
namespace Go.Proofs.Ythpniennaaihgaa
set_option linter.unusedVariables false
abbrev Ev : Type := (Int × Int × Int × Int) × List Tb × Int
def zeroEv : Ev := ((0, 0, 0, 0), [], 0)
def argsP (n : Int) : Int := if n = 4 then 0 else if n = 2 ∨ n = 3 ∨ n = 5 then 2 else if n = 0 then 3 else if n = 1 then 4 else -1
def fitsP (n : Int) (s : Sc) : Bool := mayT s && (if n = 0 ∨ n = 1 ∨ n = 2 ∨ n = 3 then decide (s.1 ≠ 3) else if n = 5 then decide (s.1 = 3) else false)
def drawP (seed : Int) : Int := (1664525 * seed + 1013904223) % 4294967296
def opP (n : Int) (t : Tb) (a : List Int) : Tb × Int :=
  if n = 0 then ((getT t (a.getD 1 0) (a.getD 2 0)).1, (getT t (a.getD 1 0) (a.getD 2 0)).2.1)
  else if n = 1 then (if (setT t (a.getD 1 0) (a.getD 2 0) (a.getD 3 0)).2 = 0 then (setT t (a.getD 1 0) (a.getD 2 0) (a.getD 3 0)).1 else t, (setT t (a.getD 1 0) (a.getD 2 0) (a.getD 3 0)).2)
  else if n = 2 then ((delT t (a.getD 1 0)).1, if (delT t (a.getD 1 0)).2 = true then 1 else 0)
  else if n = 3 then (t, if (getT t (a.getD 1 0) 0).2.2 = true then 1 else 0)
  else (if (pushT t (a.getD 1 0)).2 = 0 then (pushT t (a.getD 1 0)).1 else t, (pushT t (a.getD 1 0)).2)
def mayOp (n : Int) (ts : List Tb) (a : List Int) : Bool :=
  decide ((a.getD 0 0).toNat < ts.length) && (fitsP n (ts.getD (a.getD 0 0).toNat zeroT).1 && (mayTb (ts.getD (a.getD 0 0).toNat zeroT) && (decide (¬ (n = 0 ∨ n = 1)) || decide (a.getD 2 0 < (ts.getD (a.getD 0 0).toNat zeroT).1.2.2.1))))
def callP (n : Int) (e : Ev) (a : List Int) : Ev × Int × Int :=
  if (a.length : Int) ≠ argsP n then (zeroEv, 0, 1)
  else if n = 4 then ((e.1, e.2.1, drawP e.2.2), drawP e.2.2, 0)
  else if mayOp n e.2.1 a = true then ((e.1, e.2.1.set (a.getD 0 0).toNat (opP n (e.2.1.getD (a.getD 0 0).toNat zeroT) a).1, e.2.2), (opP n (e.2.1.getD (a.getD 0 0).toNat zeroT) a).2, 0)
  else (e, 0, 10)
end Go.Proofs.Ythpniennaaihgaa
