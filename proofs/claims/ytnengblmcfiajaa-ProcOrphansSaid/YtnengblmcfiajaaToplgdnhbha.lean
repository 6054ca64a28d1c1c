/- The law ProcOrphans is true for every input: when a process ends its children are the first one's, and nobody else's. No condition. -/
import Derived.Test.YtnengblmcfiajaaProcOrphansF
import Derived.Test.YtnengblmcfiajaaGagcbhifo
namespace Go.Proofs.Ytnengblmcfiajaa
open Go.ChangeShapes Go.WideShapes Go.ChangeAt Go.RowKit Go.Sort
set_option linter.unusedVariables false
set_option maxRecDepth 100000

theorem procOrphans_holds : Rows.ProcOrphansSaid :=
  OpenClaim.holds_of_wide 4 Try.f4 rfl rfl rfl rfl rfl rfl rfl ⟨rfl, rfl, rfl, rfl, rfl⟩ rfl rfl rfl rfl rfl (by kernel_rfl) Try.func4 procOrphans_closed
    (of_decide_eq_true (by kernel_rfl)) (by unfold Func.isWrapper; first | (rw [if_pos (by decide +kernel)]; kernel_rfl) | (rw [if_neg (by decide +kernel)]; exact ⟨rfl, rfl⟩))
    (fun os started H enc _ => procOrphans_lifted os started H enc)
#print axioms procOrphans_holds
end Go.Proofs.Ytnengblmcfiajaa
