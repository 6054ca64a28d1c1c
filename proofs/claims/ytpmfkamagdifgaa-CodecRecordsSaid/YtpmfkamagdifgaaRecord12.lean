/- The law of Records: what it needs of what is written and read. -/
import Derived.Test.YtpmfkamagdifgaaRecord10
import Derived.Test.YtpmfkamagdifgaaRecord11
import Derived.Test.YtpmfkamagdifgaaRecord7
import Derived.Test.YtpmfkamagdifgaaTurn
import Derived.Test.YtpmfkamagdifgaaAwake5
namespace Go.Proofs.Ytpmfkamagdifgaa
open Go.RowKit Go.Sort
set_option linter.unusedVariables false
set_option linter.unusedSimpArgs false
set_option maxRecDepth 100000

theorem writeRecord_bytes {L : List (List FldD)} (hL : ∀ x ∈ L, IsFRecord x) : Bytes (writeRecord L).1 := by
  cases hu : upRecord L with
  | false => rw [writeRecord_no hu]; exact noughts_byt
  | true =>
    rw [(writeRecord_up hL hu).1]
    unfold sealedL
    split
    · have hl := upRecord_len hu
      refine sealL_bytes (by decide) (lowsF_byt _) ?_
      rw [lowsF_len, widths_flat (fun x hx => isFRecord_widths (hL x hx))]
      omega
    · exact noughts_byt
theorem writeRecord_err (L : List (List FldD)) : ((writeRecord L).2 = 0 ∧ okRecord L = true) ∨ ((writeRecord L).2 = 1 ∧ okRecord L = false) := by
  have h : (writeRecord L).2 = 0 ∨ (writeRecord L).2 = 1 := by unfold writeRecord; split <;> simp
  unfold okRecord
  rcases h with h | h
  · exact .inl ⟨h, by rw [h]; rfl⟩
  · exact .inr ⟨h, by rw [h]; rfl⟩
theorem readRecord_err (s : List Nat) : (readRecord s).2 = 0 ∨ (readRecord s).2 = 21 := by unfold readRecord; split <;> simp
theorem readRecord_rows {s : List Nat} (hb : Bytes s) : ∀ x ∈ (readRecord s).1, ∃ z0 z1 z2 z3 : Int, x = fldRecord z0 z1 z2 z3 := by
  intro x hx
  unfold readRecord at hx
  split at hx
  · obtain ⟨z0, z1, z2, z3, rfl, _⟩ := itemsRecord_is (bO_bytes hb) x hx
    exact ⟨z0, z1, z2, z3, rfl⟩
  · simp at hx
theorem readRecord_len (s : List Nat) : (readRecord s).1.length ≤ 13 := by
  unfold readRecord
  split
  · rename_i h
    have h1 := h.1
    unfold writeRecord at h1
    split at h1
    · simp at h1
    · rename_i h2
      have hu : upRecord (itemsR zeroRecord (bO s)) = true := by cases hu : upRecord (itemsR zeroRecord (bO s)); exact absurd (.inl hu) h2; rfl
      exact upRecord_len hu
  · simp
end Go.Proofs.Ytpmfkamagdifgaa
