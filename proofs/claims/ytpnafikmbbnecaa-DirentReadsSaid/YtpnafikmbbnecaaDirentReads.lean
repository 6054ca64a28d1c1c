/- The law DirentReads is true for every input: any sector is read as a directory's block just as the document says, or refused. No condition. -/
import Derived.Test.YtpnafikmbbnecaaDirentReadsF
import Derived.Test.YtpnafikmbbnecaaDirentReadsL
namespace Go.Proofs.Ytpnafikmbbnecaa
open Go.ChangeShapes Go.WideShapes Go.ChangeAt Go.RowKit Go.Sort
set_option linter.unusedVariables false
set_option maxRecDepth 100000

theorem direntReads_holds : Rows.DirentReadsSaid :=
  OpenClaim.holds_of_wide 3 Try.f3 rfl rfl rfl rfl rfl rfl rfl ⟨rfl, rfl, rfl, rfl, rfl⟩ rfl rfl rfl rfl rfl (by kernel_rfl) Try.func3 direntReads_closed
    (of_decide_eq_true (by kernel_rfl)) (by unfold Func.isWrapper; first | (rw [if_pos (by decide +kernel)]; kernel_rfl) | (rw [if_neg (by decide +kernel)]; exact ⟨rfl, rfl⟩))
    (fun os started H enc _ => direntReads_lifted os started H enc)
#print axioms direntReads_holds
end Go.Proofs.Ytpnafikmbbnecaa
