/- The law ImapLoads is true for every input: a map is made of its slots, and of its sectors, and of nothing else. No condition. -/
import Derived.Test.YtgakidimipipeaaImapLoadsF
import Derived.Test.YtgakidimipipeaaGfankpgbb
namespace Go.Proofs.Ytgakidimipipeaa
open Go.ChangeShapes Go.WideShapes Go.ChangeAt Go.RowKit Go.Sort
set_option linter.unusedVariables false
set_option maxRecDepth 100000

theorem imapLoads_holds : Rows.ImapLoadsSaid :=
  OpenClaim.holds_of_wide 3 Try.f3 rfl rfl rfl rfl rfl rfl rfl ⟨rfl, rfl, rfl, rfl, rfl⟩ rfl rfl rfl rfl rfl (by kernel_rfl) Try.func3 imapLoads_closed
    (of_decide_eq_true (by kernel_rfl)) (by unfold Func.isWrapper; first | (rw [if_pos (by decide +kernel)]; kernel_rfl) | (rw [if_neg (by decide +kernel)]; exact ⟨rfl, rfl⟩))
    (fun os started H enc _ => imapLoads_lifted os started H enc)
#print axioms imapLoads_holds
end Go.Proofs.Ytgakidimipipeaa
