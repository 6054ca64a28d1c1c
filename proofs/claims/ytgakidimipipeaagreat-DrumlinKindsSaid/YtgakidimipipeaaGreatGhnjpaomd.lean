/- A sealed sector is of its own kind alone; a directory's block is of none: plain facts. -/
import Derived.Test.YtgakidimipipeaaGreatGidgolfmp
import Derived.Test.YtgakidimipipeaaGreatGbbjpknnp
import Derived.Test.YtgakidimipipeaaGreatGldejmhmc
import Derived.Test.YtgakidimipipeaaGreatGmindpcjg
import Derived.Test.YtgakidimipipeaaGreatGgklnmfpd
namespace Go.Proofs.YtgakidimipipeaaGreat
open Go.RowKit Go.Sort
set_option linter.unusedVariables false
set_option linter.unusedSimpArgs false
set_option maxRecDepth 100000

/-- Is it sealed as this kind? -/
def SealedK (k : Nat) (s : List Nat) : Prop := ∃ b, s = sealL k b
theorem sealedK_one {k k' : Nat} {s : List Nat} (h : SealedK k s) (h' : SealedK k' s) : k = k' := by
  obtain ⟨b, rfl⟩ := h
  obtain ⟨b', e⟩ := h'
  have := congrArg kindL e
  rwa [sealL_kind, sealL_kind] at this
theorem readI_sealed {s : List Nat} (h : ¬ SealedK 2 s) : (readI s).2 = 21 := by
  unfold readI
  rw [if_neg]
  rintro ⟨h1, h2⟩
  obtain ⟨Y, hY⟩ : ∃ Y, rdI (bO s) = Y := ⟨_, rfl⟩
  rw [hY] at h1 h2
  by_cases hc : mayI Y = false ∨ wrF Y = true
  · have e : writeI Y = (noughts, 1) := if_pos hc
    rw [e] at h1
    exact absurd h1 (by decide)
  · have e : writeI Y = (sealL 2 (wrB Y), 0) := if_neg hc
    rw [e] at h2
    exact h ⟨_, h2.symm⟩
theorem readH_sealed {s : List Nat} (h : ¬ SealedK 6 s) : (readH s).2 = 21 := by
  unfold readH
  rw [if_neg]
  rintro ⟨h1, h2⟩
  obtain ⟨Y, hY⟩ : ∃ Y, rdH (bO s) = Y := ⟨_, rfl⟩
  rw [hY] at h1 h2
  by_cases hc : mayH Y = false ∨ wrF Y = true
  · have e : writeH Y = (noughts, 1) := if_pos hc
    rw [e] at h1
    exact absurd h1 (by decide)
  · have e : writeH Y = (sealL 6 (wrB Y), 0) := if_neg hc
    rw [e] at h2
    exact h ⟨_, h2.symm⟩
theorem readSm_sealed {s : List Nat} (h : ¬ SealedK 3 s) : (readSm s).2 = 21 := by
  unfold readSm
  rw [if_neg]
  rintro ⟨h1, h2⟩
  obtain ⟨Y, hY⟩ : ∃ Y, rdD (bO s) = Y := ⟨_, rfl⟩
  rw [hY] at h1 h2
  rcases writeD_cases Y with ⟨_, _, e⟩ | ⟨_, e⟩
  · rw [e] at h2
    exact h ⟨_, h2.symm⟩
  · rw [e] at h1
    exact absurd h1 (by decide)
theorem readSlot_sealed {s : List Nat} (h : ¬ SealedK 4 s) : (readSlot s).2 = 21 := by
  unfold readSlot
  rw [if_neg]
  rintro ⟨h1, h2⟩
  obtain ⟨Y, hY⟩ : ∃ Y, itemsR zeroSlot (bO s) = Y := ⟨_, rfl⟩
  rw [hY] at h1 h2
  by_cases hc : upSlot Y = false ∨ wrF Y.flatten = true
  · have e : writeSlot Y = (noughts, 1) := if_pos hc
    rw [e] at h1
    exact absurd h1 (by decide)
  · have e : writeSlot Y = (sealL 4 (wrB Y.flatten), 0) := if_neg hc
    rw [e] at h2
    exact h ⟨_, h2.symm⟩
theorem readUse_sealed {s : List Nat} (h : ¬ SealedK 5 s) : (readUse s).2 = 21 := by
  unfold readUse
  rw [if_neg]
  rintro ⟨h1, h2⟩
  obtain ⟨Y, hY⟩ : ∃ Y, itemsR zeroUse (bO s) = Y := ⟨_, rfl⟩
  rw [hY] at h1 h2
  by_cases hc : upUse Y = false ∨ wrF Y.flatten = true
  · have e : writeUse Y = (noughts, 1) := if_pos hc
    rw [e] at h1
    exact absurd h1 (by decide)
  · have e : writeUse Y = (sealL 5 (wrB Y.flatten), 0) := if_neg hc
    rw [e] at h2
    exact h ⟨_, h2.symm⟩
theorem readRecord_sealed {s : List Nat} (h : ¬ SealedK 7 s) : (readRecord s).2 = 21 := by
  unfold readRecord
  rw [if_neg]
  rintro ⟨h1, h2⟩
  obtain ⟨Y, hY⟩ : ∃ Y, itemsR zeroRecord (bO s) = Y := ⟨_, rfl⟩
  rw [hY] at h1 h2
  by_cases hc : upRecord Y = false ∨ wrF Y.flatten = true
  · have e : writeRecord Y = (noughts, 1) := if_pos hc
    rw [e] at h1
    exact absurd h1 (by decide)
  · have e : writeRecord Y = (sealL 7 (wrB Y.flatten), 0) := if_neg hc
    rw [e] at h2
    exact h ⟨_, h2.symm⟩
theorem isSuper_sealed {s : List Nat} (h : ¬ SealedK 1 s) : isSuper s = false := by
  by_cases hs : isSuper s = true
  · unfold isSuper at hs
    rw [Bool.and_eq_true, decide_eq_true_eq] at hs
    exact absurd ⟨_, hs.2.symm⟩ h
  · simpa using hs
/-- One that is sealed as kind k is no other kind. -/
theorem kinds_not {k : Nat} {s : List Nat} (h : SealedK k s) (k' : Nat) (hk : k ≠ k') : ¬ SealedK k' s := fun h' => hk (sealedK_one h h')
theorem kinds_inode {L : List FldD} (hL : IsInode L) (h0 : (writeI L).2 = 0) : Kinds (writeI L).1 1 ∧ SealedK 2 (writeI L).1 := by
  have hs : SealedK 2 (writeI L).1 := by
    by_cases hc : mayI L = false ∨ wrF L = true
    · have e : writeI L = (noughts, 1) := if_pos hc
      rw [e] at h0
      exact absurd h0 (by decide)
    · have e : writeI L = (sealL 2 (wrB L), 0) := if_neg hc
      exact ⟨wrB L, by rw [e]⟩
  refine ⟨⟨readSlot_sealed (kinds_not hs 4 (by decide)), readUse_sealed (kinds_not hs 5 (by decide)), readH_sealed (kinds_not hs 6 (by decide)), isSuper_sealed (kinds_not hs 1 (by decide)), .inl ⟨rfl, ?_, readSm_sealed (kinds_not hs 3 (by decide)), readRecord_sealed (kinds_not hs 7 (by decide))⟩⟩, hs⟩
  rw [readI_writeI hL h0]
theorem kinds_sum {D : SumD} (hD : OkD D) (h0 : (writeD D).2 = 0) : Kinds (writeD D).1 1 ∧ SealedK 3 (writeD D).1 := by
  have hs : SealedK 3 (writeD D).1 := by
    rcases writeD_cases D with ⟨_, _, e⟩ | ⟨_, e⟩
    · exact ⟨lowsU (allF D), by rw [e]⟩
    · rw [e] at h0
      simp at h0
  refine ⟨⟨readSlot_sealed (kinds_not hs 4 (by decide)), readUse_sealed (kinds_not hs 5 (by decide)), readH_sealed (kinds_not hs 6 (by decide)), isSuper_sealed (kinds_not hs 1 (by decide)), .inr (.inl ⟨rfl, readI_sealed (kinds_not hs 2 (by decide)), ?_, readRecord_sealed (kinds_not hs 7 (by decide))⟩)⟩, hs⟩
  rw [readSm_writeD hD h0]
theorem records_none : writeRecord [] = (sealL 7 [], 0) := by
  unfold writeRecord
  rw [if_neg (by decide)]
  rfl
theorem kinds_records : Kinds (sealL 7 []) 1 := by
  have hs : SealedK 7 (sealL 7 []) := ⟨[], rfl⟩
  refine ⟨readSlot_sealed (kinds_not hs 4 (by decide)), readUse_sealed (kinds_not hs 5 (by decide)), readH_sealed (kinds_not hs 6 (by decide)), isSuper_sealed (kinds_not hs 1 (by decide)), .inr (.inr (.inl ⟨rfl, readI_sealed (kinds_not hs 2 (by decide)), readSm_sealed (kinds_not hs 3 (by decide)), ?_⟩))⟩
  have hb : bO (sealL 7 []) = [] := bO_seal (by decide) (by decide)
  have hi : itemsR zeroRecord [] = [] := by decide
  unfold readRecord
  rw [hb, hi, records_none]
  rw [if_pos ⟨rfl, rfl⟩]
theorem isB_sealed {k : Nat} {b : List Nat} (hk : k ≠ 0) (h : b.length ≤ 120) : isB (sealL k b) k = true := by
  unfold isB
  rw [openB_sealL hk h, sealL_kind]
  simp
theorem is_inode {L : List FldD} (hL : IsInode L) (h0 : (writeI L).2 = 0) : isB (writeI L).1 2 = true := by
  by_cases hc : mayI L = false ∨ wrF L = true
  · have e : writeI L = (noughts, 1) := if_pos hc
    rw [e] at h0
    exact absurd h0 (by decide)
  · have e : writeI L = (sealL 2 (wrB L), 0) := if_neg hc
    rw [e]
    exact isB_sealed (by decide) (by rw [wrB_length, inode_widths hL]; decide)
theorem is_sum {D : SumD} (h : OkD D) (h0 : (writeD D).2 = 0) : isB (writeD D).1 3 = true := by
  rcases writeD_cases D with ⟨hu, hr, e⟩ | ⟨_, e⟩
  · have hlen := upEntry_len hu
    have hl : (lowsU (allF D)).length ≤ 120 := by
      have h1 := wrSm_len (seq := D.seq) (first := D.first) (commit := D.commit) (next := D.next) (time := D.time) h.2.2.2.2
      have h2 : wrB (allF D) = lowsU (allF D) := (wr_room hr).2
      have h3 : (wrB (allF D)).length = 24 + D.list.length * 9 := h1
      rw [← h2, h3]
      omega
    rw [e]
    exact isB_sealed (by decide) hl
  · rw [e] at h0
    exact absurd h0 (by decide)
/-- What begins with 7 is sealed as no kind. -/
theorem kinds_seven {s r : List Nat} (h : s = 7 :: r) : Kinds s 0 := by
  have hn : ∀ k, ¬ SealedK k s := by
    rintro k ⟨b, e⟩
    rw [h] at e
    have := congrArg (fun l => l.getD 0 0) e
    simp [sealL, headL] at this
  exact ⟨readSlot_sealed (hn 4), readUse_sealed (hn 5), readH_sealed (hn 6), isSuper_sealed (hn 1), .inr (.inr (.inr ⟨rfl, readI_sealed (hn 2), readSm_sealed (hn 3), readRecord_sealed (hn 7)⟩))⟩
end Go.Proofs.YtgakidimipipeaaGreat
