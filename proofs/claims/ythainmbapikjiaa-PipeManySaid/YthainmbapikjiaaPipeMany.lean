/- The law PipeMany is true for every input: pipes don't disturb one another. No condition. -/
import Derived.Test.YthainmbapikjiaaPipeManyF
import Derived.Test.YthainmbapikjiaaPipeManyL
namespace Go.Proofs.Ythainmbapikjiaa
open Go.ChangeShapes Go.WideShapes Go.ChangeAt Go.RowKit Go.Sort
set_option linter.unusedVariables false
set_option maxRecDepth 100000

theorem pipeMany_holds : Rows.PipeManySaid :=
  OpenClaim.holds_of_wide 5 Try.f5 rfl rfl rfl rfl rfl rfl rfl ⟨rfl, rfl, rfl, rfl, rfl⟩ rfl rfl rfl rfl rfl (by kernel_rfl) Try.func5 pipeMany_closed
    (of_decide_eq_true (by kernel_rfl)) (by unfold Func.isWrapper; first | (rw [if_pos (by decide +kernel)]; kernel_rfl) | (rw [if_neg (by decide +kernel)]; exact ⟨rfl, rfl⟩))
    (fun os started H enc _ => pipeMany_lifted os started H enc)
#print axioms pipeMany_holds
end Go.Proofs.Ythainmbapikjiaa
