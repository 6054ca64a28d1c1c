/- The law DrumlinKinds is true for every input: what is written as one kind of sector is read as that kind alone; a directory's block is none of them. No condition. -/
import Derived.Test.YtgakidimipipeaaGreatDrumlinKindsF
import Derived.Test.YtgakidimipipeaaGreatGjmjlfjdn
namespace Go.Proofs.YtgakidimipipeaaGreat
open Go.ChangeShapes Go.WideShapes Go.ChangeAt Go.RowKit Go.Sort
set_option linter.unusedVariables false
set_option maxRecDepth 100000

theorem drumlinKinds_holds : Rows.DrumlinKindsSaid :=
  OpenClaim.holds_of_wide 3 Tryz.f3 rfl rfl rfl rfl rfl rfl rfl ⟨rfl, rfl, rfl, rfl, rfl⟩ rfl rfl rfl rfl rfl (by kernel_rfl) Tryz.func3 drumlinKinds_closed
    (of_decide_eq_true (by kernel_rfl)) (by unfold Func.isWrapper; first | (rw [if_pos (by decide +kernel)]; kernel_rfl) | (rw [if_neg (by decide +kernel)]; exact ⟨rfl, rfl⟩))
    (fun os started H enc _ => drumlinKinds_lifted os started H enc)
#print axioms drumlinKinds_holds
end Go.Proofs.YtgakidimipipeaaGreat
