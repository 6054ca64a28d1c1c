/- The law DirentFills is true for every input: entries fill a block one behind the other, are written and read back, and are found. No condition. -/
import Derived.Test.YtpnafikmbbnecaaDirentFillsF
import Derived.Test.YtpnafikmbbnecaaDirentFillsL
namespace Go.Proofs.Ytpnafikmbbnecaa
open Go.ChangeShapes Go.WideShapes Go.ChangeAt Go.RowKit Go.Sort
set_option linter.unusedVariables false
set_option maxRecDepth 100000

theorem direntFills_holds : Rows.DirentFillsSaid :=
  OpenClaim.holds_of_wide 5 Try.f5 rfl rfl rfl rfl rfl rfl rfl ⟨rfl, rfl, rfl, rfl, rfl⟩ rfl rfl rfl rfl rfl (by kernel_rfl) Try.func5 direntFills_closed
    (of_decide_eq_true (by kernel_rfl)) (by unfold Func.isWrapper; first | (rw [if_pos (by decide +kernel)]; kernel_rfl) | (rw [if_neg (by decide +kernel)]; exact ⟨rfl, rfl⟩))
    (fun os started H enc _ => direntFills_lifted os started H enc)
#print axioms direntFills_holds
end Go.Proofs.Ytpnafikmbbnecaa
