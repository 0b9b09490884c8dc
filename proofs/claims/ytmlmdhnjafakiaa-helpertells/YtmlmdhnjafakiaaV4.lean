/-
  What the package's Pop returns, as a contract over the translated program.
-/
import Derived.Test.YtmlmdhnjafakiaaV3
import Derived.Test.YtmlmdhnjafakiaaTR
namespace Go.Proofs.Ytmlmdhnjafakiaa
open Go Go.RowKit
set_option linter.unusedVariables false

theorem wordsV_at {ws : List Int} {f : Nat} (h : f < ws.length) : (wordsV ws)[f]? = some (.int .u32 (ws.getD f 0)) := by
  simp [wordsV, List.getD_eq_getElem?_getD, List.getElem?_eq_getElem h]
theorem delete_first (g n1 c base : Nat) (es : List Ent) (w : World) (h : Row w base (.slice (some ⟨g, 0, none⟩) (n1 + 1) c) es) (hn : es.length = n1 + 1) (h40 : n1 ≤ 1000) :
    Calls Try.prog 70 #[.slice (some ⟨g, 0, none⟩) (n1 + 1) c, .int .i64 0, .int .i64 1] w fun e w' => e = .returned (.slice (some ⟨g, 0, none⟩) n1 c) ∧ w.grownBy w' (some g) ∧ Row w' base (.slice (some ⟨g, 0, none⟩) n1 c) (es.eraseIdx 0) :=
  delete_at g n1 c 0 n1 base es w h hn (by omega) h40
end Go.Proofs.Ytmlmdhnjafakiaa
