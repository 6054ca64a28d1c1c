/- The closed facts of the law ProcSleeps's row: each is a lemma of its own. -/
import Derived.Test.YthainmbapikjiaaRows
import Derived.JoinedOf
import Derived.KernelRfl
namespace Go.Proofs.Ythainmbapikjiaa
open Go
set_option maxRecDepth 100000

set_option maxHeartbeats 6400000 in
theorem procSleeps_closed : joinedFacts Try.prog 7 Try.f7 Rows.procSleepsSpec Rows.procSleepsRow = true := by
  unfold joinedFacts
  repeat' (with_reducible refine Bool.and_eq_true_iff.2 ⟨?_, ?_⟩)
  all_goals (as_aux_lemma => kernel_rfl)
end Go.Proofs.Ythainmbapikjiaa
