/- The closed facts of the law DrumlinChain's row: each is a lemma of its own. -/
import Derived.Test.YtebkkbmplndcpaaRows
import Derived.JoinedOf
import Derived.KernelRfl
namespace Go.Proofs.Ytebkkbmplndcpaa
open Go
set_option maxRecDepth 100000

set_option maxHeartbeats 6400000 in
theorem drumlinChain_closed : joinedFacts Try.prog 5 Try.f5 Rows.drumlinChainSpec Rows.drumlinChainRow = true := by
  unfold joinedFacts
  repeat' (with_reducible refine Bool.and_eq_true_iff.2 ⟨?_, ?_⟩)
  all_goals (as_aux_lemma => kernel_rfl)
end Go.Proofs.Ytebkkbmplndcpaa
