/- An inode, written in a sealed sector, and read back: the program's. part.Num at one kind of numbers: uint64. -/
import Derived.Test.YtebkkbmplndcpaaGjpnidkkl
import Derived.Test.YtebkkbmplndcpaaGfkkcckad
import Derived.Test.YtebkkbmplndcpaaGjheagkak
namespace Go.Proofs.Ytebkkbmplndcpaa
open Go.RowKit Go.Sort
set_option linter.unusedVariables false
set_option linter.unusedSimpArgs false
set_option maxRecDepth 100000

theorem stS_length : ∀ (l : List FldD) (b : List Nat) (f : Bool), ∃ b' f', stS (.wr b f) l = .wr b' f' ∧ b'.length = b.length + widths l
  | [], b, f => ⟨b, f, rfl, by simp [widths]⟩
  | x :: l, b, f => by
    show ∃ b' f', stS (PS.next (.wr b f) x.width (u64of x.z)) l = .wr b' f' ∧ b'.length = b.length + (x.width + widths l)
    unfold PS.next
    dsimp only
    split
    · obtain ⟨b', f', h1, h2⟩ := stS_length l (b ++ low (u64of x.z) x.width) f
      exact ⟨b', f', h1, by rw [h2, List.length_append, low_length]; omega⟩
    · obtain ⟨b', f', h1, h2⟩ := stS_length l (b ++ List.replicate x.width 0) true
      exact ⟨b', f', h1, by rw [h2, List.length_append, List.length_replicate]; omega⟩
theorem wrB_length (l : List FldD) : (wrB l).length = widths l := by
  obtain ⟨b', f', h1, h2⟩ := stS_length l [] false
  unfold wrB
  rw [h1]
  simpa using h2
theorem widths_sum : ∀ (l : List FldD), widths l = (l.map (·.width)).sum
  | [] => rfl
  | x :: l => by show x.width + widths l = _; rw [widths_sum l]; simp
theorem inode_widths {l : List FldD} (h : IsInode l) : widths l = 55 := by
  have e : l.map (·.width) = (List.range 15).map widthI := by
    apply List.ext_getElem?
    intro m
    by_cases hm : m < 15
    · obtain ⟨z, hz, _⟩ := h.2 m hm
      rw [List.getElem?_map, List.getElem?_map, hz, List.getElem?_range hm]
      rfl
    · rw [List.getElem?_eq_none (by simp [h.1]; omega), List.getElem?_eq_none (by simp; omega)]
  rw [widths_sum, e]
  decide

def fieldZ (l : List FldD) (m : Nat) : Int := ((l[m]?).map (·.z)).getD 0
def mayI (l : List FldD) : Bool := decide (1 ≤ fieldZ l 2 ∧ fieldZ l 2 ≤ 2)
def writeI (l : List FldD) : List Nat × Int := if mayI l = false ∨ wrF l = true then (noughts, 1) else (sealL 2 (wrB l), 0)
def rowV (l : List FldD) : List Value := l.map fun x => Value.int x.kind x.z
theorem rowV_range {w : World} {g : Nat} {l : List FldD} {t : TypeId} (h : w.heap[g]? = some (.cells (cellsF l) t (0, 0))) : w.rangeAt g 0 (rowV l) := fun j v hv => by
  rw [Nat.zero_add, cell_of_row h]
  unfold cellsF
  rw [List.getElem?_toArray]
  exact hv
/-! ### Read -/
def bO (s : List Nat) : List Nat := if openB s then bodyL s else []
def readI (s : List Nat) : List FldD × Int := if (writeI (rdI (bO s))).2 = 0 ∧ (writeI (rdI (bO s))).1 = s then (rdI (bO s), 0) else (zeroI, 21)
theorem writeI_length (l : List FldD) (h : IsInode l) : (writeI l).1.length = 128 := by
  unfold writeI
  split
  · rfl
  · exact sealL_length (by rw [wrB_length, inode_widths h]; decide)

end Go.Proofs.Ytebkkbmplndcpaa

namespace Go.Proofs.Ytebkkbmplndcpaa
open Go.RowKit Go.Sort
set_option linter.unusedVariables false
set_option linter.unusedSimpArgs false
set_option maxRecDepth 100000

end Go.Proofs.Ytebkkbmplndcpaa
