/- The law CodecHeaders is true for every input: a region's header is written just as the document says, and read back. No condition. -/
import Derived.Test.YtpmfkamagdifgaaCodecHeadersF
import Derived.Test.YtpmfkamagdifgaaCodecHeadersL
namespace Go.Proofs.Ytpmfkamagdifgaa
open Go.ChangeShapes Go.WideShapes Go.ChangeAt Go.RowKit Go.Sort
set_option linter.unusedVariables false
set_option maxRecDepth 100000

theorem codecHeaders_holds : Rows.CodecHeadersSaid :=
  OpenClaim.holds_of_wide 6 Try.f6 rfl rfl rfl rfl rfl rfl rfl ⟨rfl, rfl, rfl, rfl, rfl⟩ rfl rfl rfl rfl rfl (by kernel_rfl) Try.func6 codecHeaders_closed
    (of_decide_eq_true (by kernel_rfl)) (by unfold Func.isWrapper; first | (rw [if_pos (by decide +kernel)]; kernel_rfl) | (rw [if_neg (by decide +kernel)]; exact ⟨rfl, rfl⟩))
    (fun os started H enc _ => codecHeaders_lifted os started H enc)
#print axioms codecHeaders_holds
end Go.Proofs.Ytpmfkamagdifgaa
