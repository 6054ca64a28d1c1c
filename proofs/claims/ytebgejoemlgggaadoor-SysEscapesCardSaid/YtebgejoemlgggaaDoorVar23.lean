/- The variables that sys leans on: the calls' shapes, the library's table and its two errors. -/
import Derived.Test.YtebgejoemlgggaaDoorTxt2
import Derived.Lib.SmallJoins
namespace Go.Proofs.YtebgejoemlgggaaDoor
open Go.RowKit Go.Sort
set_option linter.unusedVariables false
set_option linter.unusedSimpArgs false
set_option maxRecDepth 100000

def chars (s : String) : Bx := s.toUTF8.data.toList
/-- The calls' names, and what they have. -/
def shapesL : List (Bx × Bx) := [([], []), ([102, 111, 114, 107], []), ([101, 120, 105, 116], [65]), ([119, 97, 105, 116], []), ([107, 105, 108, 108], [65]), ([115, 108, 101, 101, 112], [65]), ([103, 101, 116, 112, 105, 100], []), ([111, 112, 101, 110], [83, 65]), ([99, 108, 111, 115, 101], [65]), ([114, 101, 97, 100], [65, 66]), ([119, 114, 105, 116, 101], [65, 68]), ([115, 101, 101, 107], [65, 66]), ([100, 117, 112], [65]), ([100, 117, 112, 50], [65, 66]), ([112, 105, 112, 101], []), ([108, 105, 110, 107], [83, 84]), ([117, 110, 108, 105, 110, 107], [83]), ([114, 101, 110, 97, 109, 101], [83, 84]), ([109, 107, 100, 105, 114], [83]), ([114, 109, 100, 105, 114], [83]), ([99, 104, 100, 105, 114], [83]), ([115, 116, 97, 116], [83]), ([102, 115, 116, 97, 116], [65]), ([108, 105, 115, 116], [65]), ([116, 114, 117, 110, 99, 97, 116, 101], [65, 66]), ([115, 121, 110, 99], []), ([102, 115, 121, 110, 99], [65]), ([103, 101, 116, 99, 119, 100], []), ([103, 101, 116, 112, 112, 105, 100], []), ([116, 105, 109, 101], [])]
def shapeCells : List Value := shapesL.flatMap fun p => [strB p.1, strB p.2]
structure VarsAt (w : World) : Prop where
  pow : PowAt w
  syn : ∃ te pe, w.var? Tryd.prog "strconv.ErrSyntax" = some #[.iface te pe]
  rng : ∃ te pe, w.var? Tryd.prog "strconv.ErrRange" = some #[.iface te pe]
  shp : w.var? Tryd.prog "drumlin/sys.shapes" = some shapeCells.toArray
theorem gPow : Tryd.prog.globalNamed "internal/strconv.uint64pow10" = some 7 := by kernel_rfl
theorem gSyn : Tryd.prog.globalNamed "strconv.ErrSyntax" = some 3 := by kernel_rfl
theorem gRng : Tryd.prog.globalNamed "strconv.ErrRange" = some 4 := by kernel_rfl
theorem gShp : Tryd.prog.globalNamed "drumlin/sys.shapes" = some 0 := by kernel_rfl
theorem VarsAt.below {w w' : World} (h : VarsAt w) (b : Below w.heap.size w w') : VarsAt w' where
  pow := Joins.tab_stays gPow h.pow b (Nat.le_refl _)
  syn := by obtain ⟨te, pe, h1⟩ := h.syn; exact ⟨te, pe, Joins.var_stays gSyn h1 b (Nat.le_refl _)⟩
  rng := by obtain ⟨te, pe, h1⟩ := h.rng; exact ⟨te, pe, Joins.var_stays gRng h1 b (Nat.le_refl _)⟩
  shp := Joins.var_stays gShp h.shp b (Nat.le_refl _)
def nameL (op : Int) : Bx := (shapesL[op.toNat]?.getD ([], [])).1
def hasL (op : Int) : Bx := (shapesL[op.toNat]?.getD ([], [])).2
/-- The shape of a number. -/
def shapeN (op : Int) : Bx × Bx := if 0 ≤ op ∧ op < 30 then shapesL[op.toNat]?.getD ([], []) else ([], [])
theorem shapesL_len : shapesL.length = 30 := rfl
theorem VarsAt.shape {w : World} (h : VarsAt w) (i : Nat) (hi : i < 30) : ∃ p, shapesL[i]? = some p ∧ w.cell? ⟨0, i * 2, none⟩ = some (strB p.1) ∧ w.cell? ⟨0, i * 2 + 1, none⟩ = some (strB p.2) := by
  obtain ⟨p, hp⟩ : ∃ p, shapesL[i]? = some p := ⟨_, List.getElem?_eq_getElem (by rw [shapesL_len]; exact hi)⟩
  have key : ∀ j, w.cell? ⟨0, j, none⟩ = shapeCells[j]? := fun j => by rw [World.var?_cell gShp h.shp j]; simp
  have cells : ∀ (l : List (Bx × Bx)) (i : Nat) (p : Bx × Bx), l[i]? = some p → (l.flatMap fun p => [strB p.1, strB p.2])[i * 2]? = some (strB p.1) ∧ (l.flatMap fun p => [strB p.1, strB p.2])[i * 2 + 1]? = some (strB p.2) := by
    intro l
    induction l with
    | nil => intro i p h; cases h
    | cons q l ih =>
      intro i p h
      cases i with
      | zero => simp at h; subst h; exact ⟨rfl, rfl⟩
      | succ i =>
        have h2 : l[i]? = some p := by simpa using h
        have := ih i p h2
        rw [show (i + 1) * 2 = i * 2 + 2 by omega]
        exact this
  refine ⟨p, hp, ?_, ?_⟩
  · rw [key]; exact (cells shapesL i p hp).1
  · rw [key]; exact (cells shapesL i p hp).2
end Go.Proofs.YtebgejoemlgggaaDoor
