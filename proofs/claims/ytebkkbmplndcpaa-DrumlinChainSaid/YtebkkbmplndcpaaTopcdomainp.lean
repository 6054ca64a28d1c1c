/- The law DrumlinChain is true for every input: however processes fork, end and close: as many ends of a pipe are open as somebody knows, and bytes come in their order. No condition. -/
import Derived.Test.YtebkkbmplndcpaaDrumlinChainF
import Derived.Test.YtebkkbmplndcpaaGefioncio
namespace Go.Proofs.Ytebkkbmplndcpaa
open Go.ChangeShapes Go.WideShapes Go.ChangeAt Go.RowKit Go.Sort
set_option linter.unusedVariables false
set_option maxRecDepth 100000

theorem drumlinChain_holds : Rows.DrumlinChainSaid :=
  OpenClaim.holds_of_wide 5 Try.f5 rfl rfl rfl rfl rfl rfl rfl ⟨rfl, rfl, rfl, rfl, rfl⟩ rfl rfl rfl rfl rfl (by kernel_rfl) Try.func5 drumlinChain_closed
    (of_decide_eq_true (by kernel_rfl)) (by unfold Func.isWrapper; first | (rw [if_pos (by decide +kernel)]; kernel_rfl) | (rw [if_neg (by decide +kernel)]; exact ⟨rfl, rfl⟩))
    (fun os started H enc _ => drumlinChain_lifted os started H enc)
#print axioms drumlinChain_holds
end Go.Proofs.Ytebkkbmplndcpaa
