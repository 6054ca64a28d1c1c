/- The law PipeOrders is true for every input: what is read of a pipe is what was written to it, byte by byte; at most 64 bytes are on their way. No condition. -/
import Derived.Test.YthainmbapikjiaaPipeOrdersF
import Derived.Test.YthainmbapikjiaaPipeOrdersL
namespace Go.Proofs.Ythainmbapikjiaa
open Go.ChangeShapes Go.WideShapes Go.ChangeAt Go.RowKit Go.Sort
set_option linter.unusedVariables false
set_option maxRecDepth 100000

theorem pipeOrders_holds : Rows.PipeOrdersSaid :=
  OpenClaim.holds_of_wide 4 Try.f4 rfl rfl rfl rfl rfl rfl rfl ⟨rfl, rfl, rfl, rfl, rfl⟩ rfl rfl rfl rfl rfl (by kernel_rfl) Try.func4 pipeOrders_closed
    (of_decide_eq_true (by kernel_rfl)) (by unfold Func.isWrapper; first | (rw [if_pos (by decide +kernel)]; kernel_rfl) | (rw [if_neg (by decide +kernel)]; exact ⟨rfl, rfl⟩))
    (fun os started H enc _ => pipeOrders_lifted os started H enc)
#print axioms pipeOrders_holds
end Go.Proofs.Ythainmbapikjiaa
