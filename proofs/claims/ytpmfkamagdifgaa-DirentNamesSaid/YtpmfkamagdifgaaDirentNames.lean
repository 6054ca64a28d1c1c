/- The law DirentNames is true for every input: a name may be an entry's just where the document says so. No condition. -/
import Derived.Test.YtpmfkamagdifgaaDirentNamesF
import Derived.Test.YtpmfkamagdifgaaDirentNamesL
namespace Go.Proofs.Ytpmfkamagdifgaa
open Go.ChangeShapes Go.WideShapes Go.ChangeAt Go.RowKit Go.Sort
set_option linter.unusedVariables false
set_option maxRecDepth 100000

theorem direntNames_holds : Rows.DirentNamesSaid :=
  OpenClaim.holds_of_wide 11 Try.f11 rfl rfl rfl rfl rfl rfl rfl ⟨rfl, rfl, rfl, rfl, rfl⟩ rfl rfl rfl rfl rfl (by kernel_rfl) Try.func11 direntNames_closed
    (of_decide_eq_true (by kernel_rfl)) (by unfold Func.isWrapper; first | (rw [if_pos (by decide +kernel)]; kernel_rfl) | (rw [if_neg (by decide +kernel)]; exact ⟨rfl, rfl⟩))
    (fun os started H enc _ => direntNames_lifted os started H enc)
#print axioms direntNames_holds
end Go.Proofs.Ytpmfkamagdifgaa
