/- What WriteSummary makes, ReadSummary reads; what it answers besides. -/
import Derived.Test.YtgakidimipipeaaGreatGolbjdake
namespace Go.Proofs.YtgakidimipipeaaGreat
open Go.RowKit Go.Sort
set_option linter.unusedVariables false
set_option linter.unusedSimpArgs false
set_option maxRecDepth 100000

theorem writeD_cases (D : SumD) : (upEntry D.list = true ∧ roomU (allF D) ∧ writeD D = (sealL 3 (lowsU (allF D)), 0)) ∨ (¬ (upEntry D.list = true ∧ roomU (allF D)) ∧ writeD D = (noughts, 1)) := by
  by_cases h : upEntry D.list = true ∧ roomU (allF D)
  · exact .inl ⟨h.1, h.2, writeD_good h.1 h.2⟩
  · refine .inr ⟨h, writeD_bad ?_⟩
    by_cases hu : upEntry D.list = true
    · exact .inr fun hr => h ⟨hu, hr⟩
    · exact .inl (by simpa using hu)
theorem readSm_writeD {D : SumD} (h : OkD D) (hg : (writeD D).2 = 0) : readSm (writeD D).1 = (D, 0) := by
  rcases writeD_cases D with ⟨hu, hr, e⟩ | ⟨_, e⟩
  · have hlen := upEntry_len hu
    have hl : (lowsU (allF D)).length ≤ 120 := by
      have h1 := wrSm_len (seq := D.seq) (first := D.first) (commit := D.commit) (next := D.next) (time := D.time) h.2.2.2.2
      have h2 : wrB (allF D) = lowsU (allF D) := (wr_room hr).2
      have h3 : (wrB (allF D)).length = 24 + D.list.length * 9 := h1
      rw [← h2, h3]
      omega
    have hb : bO (writeD D).1 = lowsU (allF D) := by rw [e]; exact bO_seal (by decide) hl
    have hrd : rdD (bO (writeD D).1) = D := by rw [hb]; exact rdD_back h hu hr
    unfold readSm
    rw [hrd]
    exact if_pos ⟨hg, rfl⟩
  · rw [e] at hg
    simp at hg
theorem writeD_err (D : SumD) : (writeD D).2 = 0 ∨ (writeD D).2 = 1 := by
  rcases writeD_cases D with ⟨_, _, e⟩ | ⟨_, e⟩
  · exact .inl (by rw [e])
  · exact .inr (by rw [e])
theorem readSm_err (s : List Nat) : (readSm s).2 = 0 ∨ (readSm s).2 = 21 := by unfold readSm; split <;> simp
theorem readSm_bad {s : List Nat} (h : (readSm s).2 ≠ 0) : readSm s = (zeroD, 21) := by
  unfold readSm at h ⊢
  split
  · rename_i hc
    rw [if_pos hc] at h
    exact absurd rfl h
  · rfl
theorem zeroD_ok : OkD zeroD := ⟨by decide, by decide, by unfold I64; decide, by decide, by intro x hx; cases hx⟩
theorem readSm_ok {s : List Nat} (hb : Bytes s) : OkD (readSm s).1 := by
  unfold readSm
  split
  · exact rdD_is (bO_bytes hb)
  · exact zeroD_ok
theorem readSm_len (s : List Nat) : (readSm s).1.list.length ≤ 8 := by
  unfold readSm
  split
  · rename_i h
    rcases writeD_cases (rdD (bO s)) with ⟨hu, _, _⟩ | ⟨_, e⟩
    · exact upEntry_len hu
    · have := h.1
      rw [e] at this
      simp at this
  · show 0 ≤ 8; omega
theorem writeD_bytes {D : SumD} (h : OkD D) : Bytes (writeD D).1 := by
  rcases writeD_cases D with ⟨hu, hr, e⟩ | ⟨_, e⟩
  · rw [e]
    have h1 : wrB (allF D) = lowsU (allF D) := (wr_room hr).2
    have h3 : (wrB (allF D)).length = 24 + D.list.length * 9 := wrSm_len h.2.2.2.2
    have hlen := upEntry_len hu
    refine sealL_bytes (by decide) ?_ (by rw [← h1, h3]; omega)
    intro x hx
    obtain ⟨y, _, hy⟩ := List.mem_flatMap.1 hx
    exact low_bytes _ _ x hy
  · rw [e]; exact noughts_byt
end Go.Proofs.YtgakidimipipeaaGreat
