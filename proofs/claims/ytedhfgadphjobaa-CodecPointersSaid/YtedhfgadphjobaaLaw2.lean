/- Small things that the walks of layer 2's laws share. -/
import Derived.Test.YtedhfgadphjobaaSIs
import Derived.Test.YtedhfgadphjobaaOpen
import Derived.Deep.DeepCutAuto
namespace Go.Proofs.Ytedhfgadphjobaa
open Go.RowKit
set_option linter.unusedVariables false
set_option maxRecDepth 100000

theorem same_self (l : List Nat) : sameB l l = true := by simp [sameB]
theorem below_drawn {B : Nat} {a w : World} (h : Below B a w) (n : Nat) : Below B a (w.drewN n) := h.trans ⟨rfl, rfl, rfl, Nat.le_refl _, fun _ _ => rfl⟩
/-- A box of two cells, later. -/
theorem boxed2 {w w1 : World} {x y : Value} {t : TypeId} (hb : Below (w.alloc (.cells #[x, y] t)).heap.size (w.alloc (.cells #[x, y] t)) w1) :
    w1.cell? ⟨w.heap.size, 0, none⟩ = some x ∧ w1.cell? ⟨w.heap.size, 1, none⟩ = some y ∧ Below w.heap.size w w1 ∧ w.heap.size < w1.heap.size := by
  have hs : (w.alloc (.cells #[x, y] t)).heap.size = w.heap.size + 1 := by simp
  have hz := hb.size
  refine ⟨?_, ?_, ((Below.refl _ _).alloc (Nat.le_refl _) _).trans (hb.mono (by omega)), by omega⟩
  · rw [hb.cell (p := ⟨w.heap.size, 0, none⟩) (by rw [hs]; exact Nat.lt_succ_self _)]
    unfold World.cell?; rw [heap_alloc_new]; rfl
  · rw [hb.cell (p := ⟨w.heap.size, 1, none⟩) (by rw [hs]; exact Nat.lt_succ_self _)]
    unfold World.cell?; rw [heap_alloc_new]; rfl

theorem or_one (x : Nat) (hx : x < 256) : ∃ k : Nat, bits .or .u8 (x : Int) 1 = (k : Int) ∧ k < 256 ∧ k ≠ 0 := by
  refine ⟨x ||| 1, u8_or_nat x 1 hx (by decide), Nat.or_lt_two_pow (n := 8) hx (show 1 < 2 ^ 8 by decide), ?_⟩
  intro h
  have := Nat.right_le_or (n := x) (m := 1)
  omega

theorem sealL_inj {k k' : Nat} {a b : List Nat} (ha : a.length ≤ 120) (hb : b.length ≤ 120) : decide (sealL k a = sealL k' b) = (decide (k = k') && sameB a b) := by
  rw [Bool.eq_iff_iff]
  simp only [decide_eq_true_eq, Bool.and_eq_true, sameB]
  constructor
  · intro h
    exact ⟨by rw [← sealL_kind k a, h, sealL_kind], by rw [← sealL_body k a ha, h, sealL_body k' b hb]⟩
  · rintro ⟨rfl, rfl⟩; rfl

/-- A sector that a law keeps in a block of its own. -/
theorem kept_cells {wk : World} {g : Nat} {s : List Nat} (hs : s.length = 128) (h : wk.heap[g]? = some (.cells (cells s) 46 (0, 0))) : ∀ j, j < 128 → wk.cell? ⟨g, 0 + j, none⟩ = some (byteV (s.getD j 0)) := fun j hj => by
  rw [cell_of_row _ _ _ _ _ _ h, Nat.zero_add]
  simp [cells, List.getD, List.getElem?_eq_getElem (show j < s.length by omega)]

end Go.Proofs.Ytedhfgadphjobaa
