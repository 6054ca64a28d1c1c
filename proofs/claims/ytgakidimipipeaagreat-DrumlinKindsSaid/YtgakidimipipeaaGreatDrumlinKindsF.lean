/- The closed facts of the law DrumlinKinds's row: each is a lemma of its own. -/
import Derived.Test.YtgakidimipipeaaGreatRows
import Derived.JoinedOf
import Derived.KernelRfl
namespace Go.Proofs.YtgakidimipipeaaGreat
open Go
set_option maxRecDepth 100000

set_option maxHeartbeats 6400000 in
theorem drumlinKinds_closed : joinedFacts Tryz.prog 3 Tryz.f3 Rows.drumlinKindsSpec Rows.drumlinKindsRow = true := by
  unfold joinedFacts
  repeat' (with_reducible refine Bool.and_eq_true_iff.2 ⟨?_, ?_⟩)
  all_goals (as_aux_lemma => kernel_rfl)
end Go.Proofs.YtgakidimipipeaaGreat
