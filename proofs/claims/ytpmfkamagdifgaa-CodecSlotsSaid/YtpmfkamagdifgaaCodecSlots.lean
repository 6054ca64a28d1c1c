/- The law CodecSlots is true for every input: a list of them is written just as the document says, and any sector is one, or none. No condition. -/
import Derived.Test.YtpmfkamagdifgaaCodecSlotsF
import Derived.Test.YtpmfkamagdifgaaCodecSlotsL
namespace Go.Proofs.Ytpmfkamagdifgaa
open Go.ChangeShapes Go.WideShapes Go.ChangeAt Go.RowKit Go.Sort
set_option linter.unusedVariables false
set_option maxRecDepth 100000

theorem codecSlots_holds : Rows.CodecSlotsSaid :=
  OpenClaim.holds_of_wide 3 Try.f3 rfl rfl rfl rfl rfl rfl rfl ⟨rfl, rfl, rfl, rfl, rfl⟩ rfl rfl rfl rfl rfl (by kernel_rfl) Try.func3 codecSlots_closed
    (of_decide_eq_true (by kernel_rfl)) (by unfold Func.isWrapper; first | (rw [if_pos (by decide +kernel)]; kernel_rfl) | (rw [if_neg (by decide +kernel)]; exact ⟨rfl, rfl⟩))
    (fun os started H enc _ => codecSlots_lifted os started H enc)
#print axioms codecSlots_holds
end Go.Proofs.Ytpmfkamagdifgaa
