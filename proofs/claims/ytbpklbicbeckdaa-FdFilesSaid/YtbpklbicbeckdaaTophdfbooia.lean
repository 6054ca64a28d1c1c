/- The law FdFiles is true for every input: files are opened, known, moved in and closed just as the document says, call by call. No condition. -/
import Derived.Test.YtbpklbicbeckdaaFdFilesF
import Derived.Test.YtbpklbicbeckdaaGabnpafgm
namespace Go.Proofs.Ytbpklbicbeckdaa
open Go.ChangeShapes Go.WideShapes Go.ChangeAt Go.RowKit Go.Sort
set_option linter.unusedVariables false
set_option maxRecDepth 100000

theorem fdFiles_holds : Rows.FdFilesSaid :=
  OpenClaim.holds_of_wide 5 Try.f5 rfl rfl rfl rfl rfl rfl rfl ⟨rfl, rfl, rfl, rfl, rfl⟩ rfl rfl rfl rfl rfl (by kernel_rfl) Try.func5 fdFiles_closed
    (of_decide_eq_true (by kernel_rfl)) (by unfold Func.isWrapper; first | (rw [if_pos (by decide +kernel)]; kernel_rfl) | (rw [if_neg (by decide +kernel)]; exact ⟨rfl, rfl⟩))
    (fun os started H enc _ => fdFiles_lifted os started H enc)
#print axioms fdFiles_holds
end Go.Proofs.Ytbpklbicbeckdaa
