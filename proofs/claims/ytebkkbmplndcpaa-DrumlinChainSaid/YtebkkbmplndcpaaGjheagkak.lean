/- Small things that the walks of layer 2's laws share. The reference's own sector type: its laws; ref.Full by its walk. -/
import Derived.Test.YtebkkbmplndcpaaGjpobgnlp
import Derived.Test.YtebkkbmplndcpaaOpen
import Derived.Deep.DeepCutAuto
namespace Go.Proofs.Ytebkkbmplndcpaa
open Go.RowKit
set_option linter.unusedVariables false
set_option maxRecDepth 100000

theorem same_self (l : List Nat) : sameB l l = true := by simp [sameB]
theorem below_drawn {B : Nat} {a w : World} (h : Below B a w) (n : Nat) : Below B a (w.drewN n) := h.trans ⟨rfl, rfl, rfl, Nat.le_refl _, fun _ _ => rfl⟩
/-- A box of two cells, later. -/
theorem boxed2 {w w1 : World} {x y : Value} {t : TypeId} (hb : Below (w.alloc (.cells #[x, y] t)).heap.size (w.alloc (.cells #[x, y] t)) w1) :
    w1.cell? ⟨w.heap.size, 0, none⟩ = some x ∧ w1.cell? ⟨w.heap.size, 1, none⟩ = some y ∧ Below w.heap.size w w1 ∧ w.heap.size < w1.heap.size := by
  have hs : (w.alloc (.cells #[x, y] t)).heap.size = w.heap.size + 1 := by simp
  have hz := hb.size
  refine ⟨?_, ?_, ((Below.refl _ _).alloc (Nat.le_refl _) _).trans (hb.mono (by omega)), by omega⟩
  · rw [hb.cell (p := ⟨w.heap.size, 0, none⟩) (by rw [hs]; exact Nat.lt_succ_self _)]
    unfold World.cell?; rw [heap_alloc_new]; rfl
  · rw [hb.cell (p := ⟨w.heap.size, 1, none⟩) (by rw [hs]; exact Nat.lt_succ_self _)]
    unfold World.cell?; rw [heap_alloc_new]; rfl

theorem or_one (x : Nat) (hx : x < 256) : ∃ k : Nat, bits .or .u8 (x : Int) 1 = (k : Int) ∧ k < 256 ∧ k ≠ 0 := by
  refine ⟨x ||| 1, u8_or_nat x 1 hx (by decide), Nat.or_lt_two_pow (n := 8) hx (show 1 < 2 ^ 8 by decide), ?_⟩
  intro h
  have := Nat.right_le_or (n := x) (m := 1)
  omega

theorem sealL_inj {k k' : Nat} {a b : List Nat} (ha : a.length ≤ 120) (hb : b.length ≤ 120) : decide (sealL k a = sealL k' b) = (decide (k = k') && sameB a b) := by
  rw [Bool.eq_iff_iff]
  simp only [decide_eq_true_eq, Bool.and_eq_true, sameB]
  constructor
  · intro h
    exact ⟨by rw [← sealL_kind k a, h, sealL_kind], by rw [← sealL_body k a ha, h, sealL_body k' b hb]⟩
  · rintro ⟨rfl, rfl⟩; rfl

end Go.Proofs.Ytebkkbmplndcpaa
namespace Go.Proofs.Ytebkkbmplndcpaa
open Go.RowKit
set_option linter.unusedVariables false
set_option maxRecDepth 100000

theorem full_parts {w : World} {g off : Nat} {l : List Nat} (hl : l.length = 128) (hc : ∀ j, j < 128 → w.cell? ⟨g, off + j, none⟩ = some (byteV (l.getD j 0))) : ∀ j v, (l.map byteV)[j]? = some v → w.cell? ⟨g, off + j, none⟩ = some v := fun j v hv => by
  simp only [List.getElem?_map, Option.map_eq_some_iff] at hv
  obtain ⟨y, hy, rfl⟩ := hv
  have hj : j < 128 := by rw [← hl]; exact (List.getElem?_eq_some_iff.1 hy).1
  rw [hc j hj]
  simp [List.getD, hy]

/-- The cells of a block that holds 128 bytes, of whatever type. -/
theorem block_cells {wk : World} {g : Nat} {s : List Nat} {t : TypeId} (hs : s.length = 128) (h : wk.heap[g]? = some (.cells (cells s) t (0, 0))) : ∀ j, j < 128 → wk.cell? ⟨g, 0 + j, none⟩ = some (byteV (s.getD j 0)) := fun j hj => by
  rw [cell_of_row _ _ _ _ _ _ h, Nat.zero_add]
  simp [cells, List.getD, List.getElem?_eq_getElem (show j < s.length by omega)]

theorem cells_put (s : List Nat) (i v : Nat) : (cells s).setIfInBounds i (byteV v) = cells (s.set i v) := by
  simp [cells, List.map_set]
theorem pad_put {l : List Nat} {k : Nat} (hk : k < l.length) (h : k < 128) : (pad (l.take k)).set k (l.getD k 0) = pad (l.take (k + 1)) := by
  have hl : (l.take k).length = k := by simp; omega
  unfold pad
  rw [List.set_append_right _ _ (by omega), take_snoc_getD l k hk, List.append_assoc, List.length_append, hl]
  rw [show 128 - k = (127 - k) + 1 by omega, List.replicate_succ, Nat.sub_self]
  simp only [List.set_cons_zero, List.length_singleton]
  rw [show 128 - (k + 1) = 127 - k by omega]
  rfl

/-- What Full hands back. -/
def fullL (l : List Nat) : List Nat := pad (l.take 128)
theorem fullL_length (l : List Nat) : (fullL l).length = 128 := pad_length (by simp; omega)
theorem fullL_bytes {l : List Nat} (h : Bytes l) : Bytes (fullL l) := pad_bytes (h.take 128)

end Go.Proofs.Ytebkkbmplndcpaa
