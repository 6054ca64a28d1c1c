/- The law DrumlinTables is true for every input: the map of inodes and the usage table agree, also when read back. No condition. -/
import Derived.Test.YtgakidimipipeaaDrumlinTablesF
import Derived.Test.YtgakidimipipeaaGflcjphph
namespace Go.Proofs.Ytgakidimipipeaa
open Go.ChangeShapes Go.WideShapes Go.ChangeAt Go.RowKit Go.Sort
set_option linter.unusedVariables false
set_option maxRecDepth 100000

theorem drumlinTables_holds : Rows.DrumlinTablesSaid :=
  OpenClaim.holds_of_wide 4 Try.f4 rfl rfl rfl rfl rfl rfl rfl ⟨rfl, rfl, rfl, rfl, rfl⟩ rfl rfl rfl rfl rfl (by kernel_rfl) Try.func4 drumlinTables_closed
    (of_decide_eq_true (by kernel_rfl)) (by unfold Func.isWrapper; first | (rw [if_pos (by decide +kernel)]; kernel_rfl) | (rw [if_neg (by decide +kernel)]; exact ⟨rfl, rfl⟩))
    (fun os started H enc _ => drumlinTables_lifted os started H enc)
#print axioms drumlinTables_holds
end Go.Proofs.Ytgakidimipipeaa
