/- The law FdShares is true for every input: those are open that some set knows, just as often. No condition. -/
import Derived.Test.YtbpklbicbeckdaaFdSharesF
import Derived.Test.YtbpklbicbeckdaaGobcaemae
namespace Go.Proofs.Ytbpklbicbeckdaa
open Go.ChangeShapes Go.WideShapes Go.ChangeAt Go.RowKit Go.Sort
set_option linter.unusedVariables false
set_option maxRecDepth 100000

theorem fdShares_holds : Rows.FdSharesSaid :=
  OpenClaim.holds_of_wide 7 Try.f7 rfl rfl rfl rfl rfl rfl rfl ⟨rfl, rfl, rfl, rfl, rfl⟩ rfl rfl rfl rfl rfl (by kernel_rfl) Try.func7 fdShares_closed
    (of_decide_eq_true (by kernel_rfl)) (by unfold Func.isWrapper; first | (rw [if_pos (by decide +kernel)]; kernel_rfl) | (rw [if_neg (by decide +kernel)]; exact ⟨rfl, rfl⟩))
    (fun os started H enc _ => fdShares_lifted os started H enc)
#print axioms fdShares_holds
end Go.Proofs.Ytbpklbicbeckdaa
