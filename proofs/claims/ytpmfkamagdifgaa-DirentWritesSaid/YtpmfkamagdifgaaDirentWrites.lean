/- The law DirentWrites is true for every input: a block is written just as the document says, and read back. No condition. -/
import Derived.Test.YtpmfkamagdifgaaDirentWritesF
import Derived.Test.YtpmfkamagdifgaaDirentWritesL
namespace Go.Proofs.Ytpmfkamagdifgaa
open Go.ChangeShapes Go.WideShapes Go.ChangeAt Go.RowKit Go.Sort
set_option linter.unusedVariables false
set_option maxRecDepth 100000

theorem direntWrites_holds : Rows.DirentWritesSaid :=
  OpenClaim.holds_of_wide 12 Try.f12 rfl rfl rfl rfl rfl rfl rfl ⟨rfl, rfl, rfl, rfl, rfl⟩ rfl rfl rfl rfl rfl (by kernel_rfl) Try.func12 direntWrites_closed
    (of_decide_eq_true (by kernel_rfl)) (by unfold Func.isWrapper; first | (rw [if_pos (by decide +kernel)]; kernel_rfl) | (rw [if_neg (by decide +kernel)]; exact ⟨rfl, rfl⟩))
    (fun os started H enc _ => direntWrites_lifted os started H enc)
#print axioms direntWrites_holds
end Go.Proofs.Ytpmfkamagdifgaa
