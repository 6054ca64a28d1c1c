/- The law DiskTwins is true for every input: twins go their own ways, and are the same just if all of them is. No condition. -/
import Derived.Test.YthainmbapikjiaaDiskTwinsF
import Derived.Test.YthainmbapikjiaaGaibecgep
namespace Go.Proofs.Ythainmbapikjiaa
open Go.ChangeShapes Go.WideShapes Go.ChangeAt Go.RowKit Go.Sort
set_option linter.unusedVariables false
set_option maxRecDepth 100000

theorem diskTwins_holds : Rows.DiskTwinsSaid :=
  OpenClaim.holds_of_wide 3 Try.f3 rfl rfl rfl rfl rfl rfl rfl ⟨rfl, rfl, rfl, rfl, rfl⟩ rfl rfl rfl rfl rfl (by kernel_rfl) Try.func3 diskTwins_closed
    (of_decide_eq_true (by kernel_rfl)) (by unfold Func.isWrapper; first | (rw [if_pos (by decide +kernel)]; kernel_rfl) | (rw [if_neg (by decide +kernel)]; exact ⟨rfl, rfl⟩))
    (fun os started H enc _ => diskTwins_lifted os started H enc)
#print axioms diskTwins_holds
end Go.Proofs.Ythainmbapikjiaa
