/- The law of Uses: what it needs of what is written and read. -/
import Derived.Test.YtgakidimipipeaaGnooacohd
import Derived.Test.YtgakidimipipeaaGpbickmbh
import Derived.Test.YtgakidimipipeaaGdikeinfo
import Derived.Test.YtgakidimipipeaaGbndcdfka
namespace Go.Proofs.Ytgakidimipipeaa
open Go.RowKit Go.Sort
set_option linter.unusedVariables false
set_option linter.unusedSimpArgs false
set_option maxRecDepth 100000

theorem writeUse_bytes {L : List (List FldD)} (hL : ∀ x ∈ L, IsFUse x) : Bytes (writeUse L).1 := by
  cases hu : upUse L with
  | false => rw [writeUse_no hu]; exact noughts_byt
  | true =>
    rw [(writeUse_up hL hu).1]
    unfold sealedL
    split
    · have hl := upUse_len hu
      refine sealL_bytes (by decide) (lowsF_byt _) ?_
      rw [lowsF_len, widths_flat (fun x hx => isFUse_widths (hL x hx))]
      omega
    · exact noughts_byt
theorem writeUse_err (L : List (List FldD)) : ((writeUse L).2 = 0 ∧ okUse L = true) ∨ ((writeUse L).2 = 1 ∧ okUse L = false) := by
  have h : (writeUse L).2 = 0 ∨ (writeUse L).2 = 1 := by unfold writeUse; split <;> simp
  unfold okUse
  rcases h with h | h
  · exact .inl ⟨h, by rw [h]; rfl⟩
  · exact .inr ⟨h, by rw [h]; rfl⟩
theorem readUse_err (s : List Nat) : (readUse s).2 = 0 ∨ (readUse s).2 = 21 := by unfold readUse; split <;> simp
theorem readUse_rows {s : List Nat} (hb : Bytes s) : ∀ x ∈ (readUse s).1, ∃ z0 z1 z2 : Int, x = fldUse z0 z1 z2 := by
  intro x hx
  unfold readUse at hx
  split at hx
  · obtain ⟨z0, z1, z2, rfl, _⟩ := itemsUse_is (bO_bytes hb) x hx
    exact ⟨z0, z1, z2, rfl⟩
  · simp at hx
theorem readUse_len (s : List Nat) : (readUse s).1.length ≤ 15 := by
  unfold readUse
  split
  · rename_i h
    have h1 := h.1
    unfold writeUse at h1
    split at h1
    · simp at h1
    · rename_i h2
      have hu : upUse (itemsR zeroUse (bO s)) = true := by cases hu : upUse (itemsR zeroUse (bO s)); exact absurd (.inl hu) h2; rfl
      exact upUse_len hu
  · simp
end Go.Proofs.Ytgakidimipipeaa
