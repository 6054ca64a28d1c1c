/- The law ProcSleeps is true for every input: sleepers are woken when their time has come, in the order of their Pids. No condition. -/
import Derived.Test.YthainmbapikjiaaProcSleepsF
import Derived.Test.YthainmbapikjiaaProcSleepsL
namespace Go.Proofs.Ythainmbapikjiaa
open Go.ChangeShapes Go.WideShapes Go.ChangeAt Go.RowKit Go.Sort
set_option linter.unusedVariables false
set_option maxRecDepth 100000

theorem procSleeps_holds : Rows.ProcSleepsSaid :=
  OpenClaim.holds_of_wide 7 Try.f7 rfl rfl rfl rfl rfl rfl rfl ⟨rfl, rfl, rfl, rfl, rfl⟩ rfl rfl rfl rfl rfl (by kernel_rfl) Try.func7 procSleeps_closed
    (of_decide_eq_true (by kernel_rfl)) (by unfold Func.isWrapper; first | (rw [if_pos (by decide +kernel)]; kernel_rfl) | (rw [if_neg (by decide +kernel)]; exact ⟨rfl, rfl⟩))
    (fun os started H enc _ => procSleeps_lifted os started H enc)
#print axioms procSleeps_holds
end Go.Proofs.Ythainmbapikjiaa
