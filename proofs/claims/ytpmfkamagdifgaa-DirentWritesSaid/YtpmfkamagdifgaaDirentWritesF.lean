/- The closed facts of the law DirentWrites's row: each is a lemma of its own. -/
import Derived.Test.YtpmfkamagdifgaaRows
import Derived.JoinedOf
import Derived.KernelRfl
namespace Go.Proofs.Ytpmfkamagdifgaa
open Go
set_option maxRecDepth 100000

set_option maxHeartbeats 6400000 in
theorem direntWrites_closed : joinedFacts Try.prog 12 Try.f12 Rows.direntWritesSpec Rows.direntWritesRow = true := by
  unfold joinedFacts
  repeat' (with_reducible refine Bool.and_eq_true_iff.2 ⟨?_, ?_⟩)
  all_goals (as_aux_lemma => kernel_rfl)
end Go.Proofs.Ytpmfkamagdifgaa
