/- The law CodecSummaries is true for every input: a summary is written just as the document says, and read back; any sector is one, or none. No condition. -/
import Derived.Test.YtplkglepbedhoaaCodecSummariesF
import Derived.Test.YtplkglepbedhoaaGincpjlik
namespace Go.Proofs.Ytplkglepbedhoaa
open Go.ChangeShapes Go.WideShapes Go.ChangeAt Go.RowKit Go.Sort
set_option linter.unusedVariables false
set_option maxRecDepth 100000

theorem codecSummaries_holds : Rows.CodecSummariesSaid :=
  OpenClaim.holds_of_wide 4 Try.f4 rfl rfl rfl rfl rfl rfl rfl ⟨rfl, rfl, rfl, rfl, rfl⟩ rfl rfl rfl rfl rfl (by kernel_rfl) Try.func4 codecSummaries_closed
    (of_decide_eq_true (by kernel_rfl)) (by unfold Func.isWrapper; first | (rw [if_pos (by decide +kernel)]; kernel_rfl) | (rw [if_neg (by decide +kernel)]; exact ⟨rfl, rfl⟩))
    (fun os started H enc _ => codecSummaries_lifted os started H enc)
#print axioms codecSummaries_holds
end Go.Proofs.Ytplkglepbedhoaa
