/-
  What each of the package's functions and the reference's answers, said in one way for every input.
-/
import Derived.Test.YtlbhmopmfddhjaaDoorW4
import Derived.Test.YtlbhmopmfddhjaaDoorV5
import Derived.Test.YtlbhmopmfddhjaaDoorZ8
import Derived.Test.YtlbhmopmfddhjaaDoorZ6
import Derived.Test.YtlbhmopmfddhjaaDoorX3
namespace Go.Proofs.YtlbhmopmfddhjaaDoor
open Go.RowKit

def putE (fs : List Fun) : Int := if mayP fs = true then 0 else 1
def putZ (fs : List Fun) : List Int := if mayP fs = true then encP fs else []
def PutU (fs : List Fun) (w : World) (e : Ending) (w' : World) : Prop :=
  ∃ b l c, e = .returned (.tuple #[.slice b l c, .int .i64 (putE fs)]) ∧ Below w.heap.size w w' ∧ SliceB w' b l c (putZ fs)
theorem prPut_u (a : Option Addr) (len cap : Nat) (fs : List Fun) (w : World) (hR : RowsIn w) (h : FnsAt w a len cap fs) : Calls Tryd.prog 12 #[.agg #[.slice a len cap]] w (PutU fs w) := by
  rcases hM : mayP fs with _ | _
  · refine (prPut_no a len cap fs w hR h hM).mono ?_
    rintro e w' ⟨rfl, hb⟩
    exact ⟨none, 0, 0, by simp [putE, hM], hb, by rw [show putZ fs = [] by simp [putZ, hM]]; exact slice_nil _⟩
  · refine (prPut_yes a len cap fs w hR h hM).mono ?_
    rintro e w' ⟨g, cp, rfl, hb, _, h1, h2, h3⟩
    exact ⟨some ⟨g, 0, none⟩, (encP fs).length, cp, by simp [putE, hM], hb, by rw [show putZ fs = encP fs by simp [putZ, hM]]; exact put_slice (fns_ok h) hM h1 h2 h3⟩
theorem rPut_u (a : Option Addr) (len cap : Nat) (fs : List Fun) (w : World) (h : FnsAt w a len cap fs) : Calls Tryd.prog 13 #[.agg #[.slice a len cap]] w (PutU fs w) := by
  rcases hM : mayP fs with _ | _
  · refine (pput_no a len cap fs w h hM).mono ?_
    rintro e w' ⟨rfl, hb⟩
    exact ⟨none, 0, 0, by simp [putE, hM], hb, by rw [show putZ fs = [] by simp [putZ, hM]]; exact slice_nil _⟩
  · refine (pput_yes a len cap fs w h hM).mono ?_
    rintro e w' ⟨g, n, cp, rfl, hb, _, rfl, h1, h2, h3⟩
    exact ⟨some ⟨g, 0, none⟩, (encP fs).length, cp, by simp [putE, hM], hb, by rw [show putZ fs = encP fs by simp [putZ, hM]]; exact put_slice (fns_ok h) hM h1 h2 h3⟩
def getE (zs : List Int) : Int := if (getP zs).isSome then 0 else 7
def GetU (zs : List Int) (w : World) (e : Ending) (w' : World) : Prop :=
  ∃ b l c, e = .returned (.tuple #[.agg #[.slice b l c], .int .i64 (getE zs)]) ∧ Below w.heap.size w w' ∧ FnsAt w' b l c ((getP zs).getD [])
theorem get_u {zs : List Int} {w w' : World} {e : Ending} (h : GetPost zs w e w') : GetU zs w e w' := by
  rcases h with ⟨hb, ⟨hs, rfl⟩ | ⟨fs, b, l, c, hs, rfl, hF⟩⟩
  · exact ⟨none, 0, 0, by simp [getE, hs], hb, by rw [hs]; exact fns_nil _ _⟩
  · exact ⟨b, l, c, by simp [getE, hs], hb, by rw [hs]; exact hF⟩
def swapF (fs : List Fun) (i g : Int) (c : List I) : List Fun := if swapE fs i g c = 0 then fs.set i.toNat (g, c) else []
def SwapU (fs : List Fun) (i g : Int) (c : List I) (w : World) (e : Ending) (w' : World) : Prop :=
  ∃ b l cp, e = .returned (.tuple #[.agg #[.slice b l cp], .int .i64 (swapE fs i g c)]) ∧ Below w.heap.size w w' ∧ FnsAt w' b l cp (swapF fs i g c)
theorem swap_u {fs : List Fun} {i g : Int} {c : List I} {w w' : World} {e : Ending} (h : SwapPost fs i g c w e w') : SwapU fs i g c w e w' := by
  rcases h with ⟨hb, ⟨hs, rfl⟩ | ⟨hs, b, cp, rfl, hF⟩⟩
  · exact ⟨none, 0, 0, rfl, hb, by rw [swapF, if_neg hs]; exact fns_nil _ _⟩
  · exact ⟨b, _, cp, by rw [hs], hb, by rw [swapF, if_pos hs]; exact hF⟩
end Go.Proofs.YtlbhmopmfddhjaaDoor
