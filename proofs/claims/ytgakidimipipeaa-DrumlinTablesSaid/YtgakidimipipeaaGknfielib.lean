/- The document's WriteUses: what it makes of a list is what the program makes. -/
import Derived.Test.YtgakidimipipeaaGohcjdjhg
import Derived.Test.YtgakidimipipeaaGhmedploj
namespace Go.Proofs.Ytgakidimipipeaa
open Go.RowKit Go.Sort
set_option linter.unusedVariables false
set_option linter.unusedSimpArgs false
set_option maxRecDepth 100000

theorem fldsUse {l : List FldD} (h : IsFUse l) : ∀ x ∈ l, FldOk x := by
  obtain ⟨z0, z1, z2, rfl, k0, k1, k2⟩ := h
  intro x hx
  simp only [fldUse, List.mem_cons, List.not_mem_nil, or_false] at hx
  rcases hx with rfl | rfl | rfl
  · exact ⟨by dsimp only; omega, by dsimp only; omega, k0⟩
  · exact ⟨by dsimp only; omega, by dsimp only; omega, k1⟩
  · exact ⟨by dsimp only; omega, by dsimp only; omega, (by unfold I64; dsimp only; omega)⟩
theorem fldsUse_flat {L : List (List FldD)} (h : ∀ x ∈ L, IsFUse x) : ∀ x ∈ L.flatten, FldOk x := by
  intro x hx
  obtain ⟨l, hl, hx⟩ := List.mem_flatten.1 hx
  exact fldsUse (h l hl) x hx
theorem flenUse {L : List (List FldD)} (h : ∀ x ∈ L, IsFUse x) : L.flatten.length = L.length * 3 := by
  induction L with
  | nil => rfl
  | cons x L ih =>
    rw [List.flatten_cons, List.length_append, isFUse_length (h x (by simp)), ih fun y hy => h y (by simp [hy]), List.length_cons, Nat.succ_mul]
    omega
noncomputable def okUse (L : List (List FldD)) : Bool := decide ((writeUse L).2 = 0)
theorem writeUse_no {L : List (List FldD)} (h : upUse L = false) : writeUse L = (noughts, 1) := if_pos (.inl h)
theorem writeUse_up {L : List (List FldD)} (hL : ∀ x ∈ L, IsFUse x) (h : upUse L = true) : (writeUse L).1 = sealedL 5 (fieldsP L.flatten) ∧ okUse L = okB (fieldsP L.flatten) := by
  have hk := okFs_iff (fldsUse_flat hL)
  by_cases hr : roomU L.flatten
  · obtain ⟨h1, h2⟩ := wr_room hr
    have e : writeUse L = (sealL 5 (wrB L.flatten), 0) := if_neg (by rw [h, h1]; simp)
    unfold okUse
    rw [e, h2]
    refine ⟨?_, ?_⟩
    · show _ = if okFs _ then _ else _
      rw [if_pos (hk.2 hr), lowsF_is (fldsUse_flat hL) hr]
    · show decide ((0 : Int) = 0) = decide (okFs _)
      rw [decide_eq_true (hk.2 hr)]
      rfl
  · have h1 := wr_bad hr
    have e : writeUse L = (noughts, 1) := if_pos (.inr h1)
    unfold okUse
    rw [e]
    refine ⟨?_, ?_⟩
    · show _ = if okFs _ then _ else _
      rw [if_neg (fun h => hr (hk.1 h))]
    · show decide ((1 : Int) = 0) = decide (okFs _)
      rw [decide_eq_false (fun h => hr (hk.1 h))]
      rfl
end Go.Proofs.Ytgakidimipipeaa
