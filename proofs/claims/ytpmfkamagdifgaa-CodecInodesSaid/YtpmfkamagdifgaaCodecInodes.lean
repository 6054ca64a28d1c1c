/- The law CodecInodes is true for every input: an inode is written just as the document says, and read back; any sector is one, or none. No condition. -/
import Derived.Test.YtpmfkamagdifgaaCodecInodesF
import Derived.Test.YtpmfkamagdifgaaCodecInodesL
namespace Go.Proofs.Ytpmfkamagdifgaa
open Go.ChangeShapes Go.WideShapes Go.ChangeAt Go.RowKit Go.Sort
set_option linter.unusedVariables false
set_option maxRecDepth 100000

theorem codecInodes_holds : Rows.CodecInodesSaid :=
  OpenClaim.holds_of_wide 7 Try.f7 rfl rfl rfl rfl rfl rfl rfl ⟨rfl, rfl, rfl, rfl, rfl⟩ rfl rfl rfl rfl rfl (by kernel_rfl) Try.func7 codecInodes_closed
    (of_decide_eq_true (by kernel_rfl)) (by unfold Func.isWrapper; first | (rw [if_pos (by decide +kernel)]; kernel_rfl) | (rw [if_neg (by decide +kernel)]; exact ⟨rfl, rfl⟩))
    (fun os started H enc _ => codecInodes_lifted os started H enc)
#print axioms codecInodes_holds
end Go.Proofs.Ytpmfkamagdifgaa
