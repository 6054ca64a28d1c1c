/- A region's header, written in a sealed sector, and read back: the program's. -/
import Derived.Test.YtpnafikmbbnecaaHead
import Derived.Test.YtpnafikmbbnecaaInode2
import Derived.Test.YtpnafikmbbnecaaAwake5
namespace Go.Proofs.Ytpnafikmbbnecaa
open Go.RowKit Go.Sort
set_option linter.unusedVariables false
set_option linter.unusedSimpArgs false
set_option maxRecDepth 100000

theorem head_widths {l : List FldD} (h : IsHead l) : widths l = 26 := by
  have e : l.map (·.width) = (List.range 6).map widthH := by
    apply List.ext_getElem?
    intro m
    by_cases hm : m < 6
    · obtain ⟨z, hz, _⟩ := h.2 m hm
      rw [List.getElem?_map, List.getElem?_map, hz, List.getElem?_range hm]
      rfl
    · rw [List.getElem?_eq_none (by simp [h.1]; omega), List.getElem?_eq_none (by simp; omega)]
  rw [widths_sum, e]
  decide
def mayH (l : List FldD) : Bool := true
def writeH (l : List FldD) : List Nat × Int := if mayH l = false ∨ wrF l = true then (noughts, 1) else (sealL 6 (wrB l), 0)
/-! ### Read -/
def readH (s : List Nat) : List FldD × Int := if (writeH (rdH (bO s))).2 = 0 ∧ (writeH (rdH (bO s))).1 = s then (rdH (bO s), 0) else (zeroH, 21)
theorem writeH_length (l : List FldD) (h : IsHead l) : (writeH l).1.length = 128 := by
  unfold writeH
  split
  · rfl
  · exact sealL_length (by rw [wrB_length, head_widths h]; decide)

end Go.Proofs.Ytpnafikmbbnecaa
