/- What a Summary is written as: as plain bytes. -/
import Derived.Test.YtgakidimipipeaaGreatGdgeabifm
namespace Go.Proofs.YtgakidimipipeaaGreat
open Go.RowKit Go.Sort
set_option linter.unusedVariables false
set_option linter.unusedSimpArgs false
set_option maxRecDepth 100000

/-- A summary's numbers in the order of its bytes. -/
def allF (D : SumD) : List FldD := sumF D.seq D.first D.commit D.list.length D.next D.time ++ D.list.flatten
theorem writeD_bad {D : SumD} (h : upEntry D.list = false ∨ ¬ roomU (allF D)) : writeD D = (noughts, 1) :=
  if_pos (h.imp id fun h => wr_bad h)
theorem writeD_good {D : SumD} (hu : upEntry D.list = true) (hr : roomU (allF D)) : writeD D = (sealL 3 (lowsU (allF D)), 0) := by
  obtain ⟨h1, h2⟩ := wr_room hr
  have e : writeD D = (sealL 3 (wrB (allF D)), 0) := if_neg (by
    rintro (h | h)
    · rw [hu] at h; cases h
    · rw [show wrF (sumF D.seq D.first D.commit D.list.length D.next D.time ++ D.list.flatten) = false from h1] at h; cases h)
  rw [e, h2]
theorem room_append {l m : List FldD} : roomU (l ++ m) ↔ roomU l ∧ roomU m := by
  unfold roomU
  constructor
  · intro h
    exact ⟨fun x hx => h x (List.mem_append_left _ hx), fun x hx => h x (List.mem_append_right _ hx)⟩
  · rintro ⟨h1, h2⟩ x hx
    rcases List.mem_append.1 hx with h | h
    · exact h1 x h
    · exact h2 x h
/-- The numbers ahead of the entries have room just if Next lies in 0 to 65535 (and the list isn't too long). -/
theorem room_sumF {D : SumD} (h : OkD D) (hl : D.list.length ≤ 255) : roomU (sumF D.seq D.first D.commit D.list.length D.next D.time) ↔ 0 ≤ D.next ∧ D.next ≤ 65535 := by
  obtain ⟨k0, k1, k3, k4, _⟩ := h
  unfold I64 at k3
  unfold roomU sumF
  constructor
  · intro h
    have := h ⟨.i64, 2, D.next⟩ (by simp)
    unfold u64of at this
    dsimp only at this
    omega
  · rintro ⟨h1, h2⟩ x hx
    simp only [List.mem_cons, List.not_mem_nil, or_false] at hx
    rcases hx with rfl | rfl | rfl | rfl | rfl | rfl
    · unfold u64of; dsimp only; omega
    · unfold u64of; dsimp only; omega
    · unfold u64of flagN; dsimp only; cases D.commit <;> decide
    · unfold u64of; dsimp only; omega
    · unfold u64of; dsimp only; omega
    · unfold u64of; dsimp only; omega
/-- An entry has room just if its Num and its Index lie below 65536 (its Kind is 1 to 6). -/
theorem room_entry {z0 z1 z2 z3 : Int} (h0 : 1 ≤ z0 ∧ z0 ≤ 6) (h1 : 0 ≤ z1 ∧ z1 < 4294967296) (h2 : 0 ≤ z2 ∧ z2 < 4294967296) (h3 : I64 z3) : roomU (fldEntry z0 z1 z2 z3) ↔ z1 ≤ 65535 ∧ 0 ≤ z3 ∧ z3 ≤ 65535 := by
  unfold I64 at h3
  unfold roomU fldEntry
  constructor
  · intro h
    have a := h ⟨.u32, 2, z1⟩ (by simp)
    have b := h ⟨.i64, 2, z3⟩ (by simp)
    unfold u64of at a b
    dsimp only at a b
    omega
  · rintro ⟨a, b, c⟩ x hx
    simp only [List.mem_cons, List.not_mem_nil, or_false] at hx
    rcases hx with rfl | rfl | rfl | rfl <;> (unfold u64of; dsimp only; omega)
theorem room_flat {L : List (List FldD)} : roomU L.flatten ↔ ∀ x ∈ L, roomU x := by
  unfold roomU
  constructor
  · intro h x hx y hy
    exact h y (List.mem_flatten.2 ⟨x, hx, hy⟩)
  · intro h y hy
    obtain ⟨x, hx, hy⟩ := List.mem_flatten.1 hy
    exact h x hx y hy
end Go.Proofs.YtgakidimipipeaaGreat
