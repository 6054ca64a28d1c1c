/- The closed facts of the law ProcTree's row: each is a lemma of its own. -/
import Derived.Test.YtnengblmcfiajaaRows
import Derived.JoinedOf
import Derived.KernelRfl
namespace Go.Proofs.Ytnengblmcfiajaa
open Go
set_option maxRecDepth 100000

set_option maxHeartbeats 6400000 in
theorem procTree_closed : joinedFacts Try.prog 3 Try.f3 Rows.procTreeSpec Rows.procTreeRow = true := by
  unfold joinedFacts
  repeat' (with_reducible refine Bool.and_eq_true_iff.2 ⟨?_, ?_⟩)
  all_goals (as_aux_lemma => kernel_rfl)
end Go.Proofs.Ytnengblmcfiajaa
