/- The closed facts of the law DirentFills's row: each is a lemma of its own. -/
import Derived.Test.YtpnafikmbbnecaaRows
import Derived.JoinedOf
import Derived.KernelRfl
namespace Go.Proofs.Ytpnafikmbbnecaa
open Go
set_option maxRecDepth 100000

set_option maxHeartbeats 6400000 in
theorem direntFills_closed : joinedFacts Try.prog 5 Try.f5 Rows.direntFillsSpec Rows.direntFillsRow = true := by
  unfold joinedFacts
  repeat' (with_reducible refine Bool.and_eq_true_iff.2 ⟨?_, ?_⟩)
  all_goals (as_aux_lemma => kernel_rfl)
end Go.Proofs.Ytpnafikmbbnecaa
