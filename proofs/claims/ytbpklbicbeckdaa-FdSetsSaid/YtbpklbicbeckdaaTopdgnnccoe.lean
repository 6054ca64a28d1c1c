/- The law FdSets is true for every input: what a process knows is told just as the document says, call by call; clones go their own way. No condition. -/
import Derived.Test.YtbpklbicbeckdaaFdSetsF
import Derived.Test.YtbpklbicbeckdaaGmkfmhnck
namespace Go.Proofs.Ytbpklbicbeckdaa
open Go.ChangeShapes Go.WideShapes Go.ChangeAt Go.RowKit Go.Sort
set_option linter.unusedVariables false
set_option maxRecDepth 100000

theorem fdSets_holds : Rows.FdSetsSaid :=
  OpenClaim.holds_of_wide 6 Try.f6 rfl rfl rfl rfl rfl rfl rfl ⟨rfl, rfl, rfl, rfl, rfl⟩ rfl rfl rfl rfl rfl (by kernel_rfl) Try.func6 fdSets_closed
    (of_decide_eq_true (by kernel_rfl)) (by unfold Func.isWrapper; first | (rw [if_pos (by decide +kernel)]; kernel_rfl) | (rw [if_neg (by decide +kernel)]; exact ⟨rfl, rfl⟩))
    (fun os started H enc _ => fdSets_lifted os started H enc)
#print axioms fdSets_holds
end Go.Proofs.Ytbpklbicbeckdaa
