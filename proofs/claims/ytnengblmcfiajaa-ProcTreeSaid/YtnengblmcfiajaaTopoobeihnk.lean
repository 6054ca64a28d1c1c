/- The law ProcTree is true for every input: pids are given once, rising; each process but the first has a parent that is there; there are never too many. No condition. -/
import Derived.Test.YtnengblmcfiajaaProcTreeF
import Derived.Test.YtnengblmcfiajaaGgnhfecgm
namespace Go.Proofs.Ytnengblmcfiajaa
open Go.ChangeShapes Go.WideShapes Go.ChangeAt Go.RowKit Go.Sort
set_option linter.unusedVariables false
set_option maxRecDepth 100000

theorem procTree_holds : Rows.ProcTreeSaid :=
  OpenClaim.holds_of_wide 3 Try.f3 rfl rfl rfl rfl rfl rfl rfl ⟨rfl, rfl, rfl, rfl, rfl⟩ rfl rfl rfl rfl rfl (by kernel_rfl) Try.func3 procTree_closed
    (of_decide_eq_true (by kernel_rfl)) (by unfold Func.isWrapper; first | (rw [if_pos (by decide +kernel)]; kernel_rfl) | (rw [if_neg (by decide +kernel)]; exact ⟨rfl, rfl⟩))
    (fun os started H enc _ => procTree_lifted os started H enc)
#print axioms procTree_holds
end Go.Proofs.Ytnengblmcfiajaa
