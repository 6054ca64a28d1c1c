/- The law CodecRecords is true for every input: a list of them is written just as the document says, and any sector is one, or none. No condition. -/
import Derived.Test.YtpmfkamagdifgaaCodecRecordsF
import Derived.Test.YtpmfkamagdifgaaCodecRecordsL
namespace Go.Proofs.Ytpmfkamagdifgaa
open Go.ChangeShapes Go.WideShapes Go.ChangeAt Go.RowKit Go.Sort
set_option linter.unusedVariables false
set_option maxRecDepth 100000

theorem codecRecords_holds : Rows.CodecRecordsSaid :=
  OpenClaim.holds_of_wide 5 Try.f5 rfl rfl rfl rfl rfl rfl rfl ⟨rfl, rfl, rfl, rfl, rfl⟩ rfl rfl rfl rfl rfl (by kernel_rfl) Try.func5 codecRecords_closed
    (of_decide_eq_true (by kernel_rfl)) (by unfold Func.isWrapper; first | (rw [if_pos (by decide +kernel)]; kernel_rfl) | (rw [if_neg (by decide +kernel)]; exact ⟨rfl, rfl⟩))
    (fun os started H enc _ => codecRecords_lifted os started H enc)
#print axioms codecRecords_holds
end Go.Proofs.Ytpmfkamagdifgaa
