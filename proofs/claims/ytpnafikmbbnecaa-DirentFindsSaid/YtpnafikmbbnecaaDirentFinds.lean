/- The law DirentFinds is true for every input: the first entry of a name is found, the first that is none, and how many aren't none. No condition. -/
import Derived.Test.YtpnafikmbbnecaaDirentFindsF
import Derived.Test.YtpnafikmbbnecaaDirentFindsL
namespace Go.Proofs.Ytpnafikmbbnecaa
open Go.ChangeShapes Go.WideShapes Go.ChangeAt Go.RowKit Go.Sort
set_option linter.unusedVariables false
set_option maxRecDepth 100000

theorem direntFinds_holds : Rows.DirentFindsSaid :=
  OpenClaim.holds_of_wide 4 Try.f4 rfl rfl rfl rfl rfl rfl rfl ⟨rfl, rfl, rfl, rfl, rfl⟩ rfl rfl rfl rfl rfl (by kernel_rfl) Try.func4 direntFinds_closed
    (of_decide_eq_true (by kernel_rfl)) (by unfold Func.isWrapper; first | (rw [if_pos (by decide +kernel)]; kernel_rfl) | (rw [if_neg (by decide +kernel)]; exact ⟨rfl, rfl⟩))
    (fun os started H enc _ => direntFinds_lifted os started H enc)
#print axioms direntFinds_holds
end Go.Proofs.Ytpnafikmbbnecaa
