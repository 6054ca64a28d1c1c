/- The law of Slots: what it needs of what is written and read. -/
import Derived.Test.YtgakidimipipeaaGplcbnjga
import Derived.Test.YtgakidimipipeaaGbeglaiab
import Derived.Test.YtgakidimipipeaaGpalnpiok
import Derived.Test.YtgakidimipipeaaGbndcdfka
namespace Go.Proofs.Ytgakidimipipeaa
open Go.RowKit Go.Sort
set_option linter.unusedVariables false
set_option linter.unusedSimpArgs false
set_option maxRecDepth 100000

theorem writeSlot_bytes {L : List (List FldD)} (hL : ∀ x ∈ L, IsFSlot x) : Bytes (writeSlot L).1 := by
  cases hu : upSlot L with
  | false => rw [writeSlot_no hu]; exact noughts_byt
  | true =>
    rw [(writeSlot_up hL hu).1]
    unfold sealedL
    split
    · have hl := upSlot_len hu
      refine sealL_bytes (by decide) (lowsF_byt _) ?_
      rw [lowsF_len, widths_flat (fun x hx => isFSlot_widths (hL x hx))]
      omega
    · exact noughts_byt
theorem writeSlot_err (L : List (List FldD)) : ((writeSlot L).2 = 0 ∧ okSlot L = true) ∨ ((writeSlot L).2 = 1 ∧ okSlot L = false) := by
  have h : (writeSlot L).2 = 0 ∨ (writeSlot L).2 = 1 := by unfold writeSlot; split <;> simp
  unfold okSlot
  rcases h with h | h
  · exact .inl ⟨h, by rw [h]; rfl⟩
  · exact .inr ⟨h, by rw [h]; rfl⟩
theorem readSlot_err (s : List Nat) : (readSlot s).2 = 0 ∨ (readSlot s).2 = 21 := by unfold readSlot; split <;> simp
theorem readSlot_rows {s : List Nat} (hb : Bytes s) : ∀ x ∈ (readSlot s).1, ∃ z0 z1 z2 z3 : Int, x = fldSlot z0 z1 z2 z3 := by
  intro x hx
  unfold readSlot at hx
  split at hx
  · obtain ⟨z0, z1, z2, z3, rfl, _⟩ := itemsSlot_is (bO_bytes hb) x hx
    exact ⟨z0, z1, z2, z3, rfl⟩
  · simp at hx
theorem readSlot_len (s : List Nat) : (readSlot s).1.length ≤ 10 := by
  unfold readSlot
  split
  · rename_i h
    have h1 := h.1
    unfold writeSlot at h1
    split at h1
    · simp at h1
    · rename_i h2
      have hu : upSlot (itemsR zeroSlot (bO s)) = true := by cases hu : upSlot (itemsR zeroSlot (bO s)); exact absurd (.inl hu) h2; rfl
      exact upSlot_len hu
  · simp
end Go.Proofs.Ytgakidimipipeaa
