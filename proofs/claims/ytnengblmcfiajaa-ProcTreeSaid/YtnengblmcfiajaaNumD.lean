/- The fixed fact of layer 1's laws, by its walk. -/
import Derived.Test.YtnengblmcfiajaaMem
import Derived.Laws.CopyOwn
namespace Go.Proofs.Ytnengblmcfiajaa
open Go.RowKit
set_option linter.unusedVariables false
set_option maxRecDepth 100000

/-! The contracts over plain integers. -/
theorem Reads.of_row {w : World} {g off len : Nat} {l : List Nat} {cur : Array Value} {e0 : TypeId} {fr : Nat × Nat} (hg : w.heap[g]? = some (.cells cur e0 fr)) (hb : Bytes l) (hlen : l.length = len)
    (h : ∀ i, i < len → cur[off + i]? = some (byteV (l.getD i 0))) : Reads w (some ⟨g, off, none⟩) len l := by
  refine ⟨hlen, hb, .inr ⟨g, off, rfl, (Array.getElem?_eq_some_iff.1 hg).1, fun i hi => ?_⟩⟩
  simpa [World.cell?, hg, byteV] using h i hi

end Go.Proofs.Ytnengblmcfiajaa

