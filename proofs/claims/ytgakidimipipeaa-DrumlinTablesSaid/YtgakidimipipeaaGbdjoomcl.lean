/- The document's ReadUses: what it reads of any sector is what the program reads. Its numbers. -/
import Derived.Test.YtgakidimipipeaaGknfielib
import Derived.Test.YtgakidimipipeaaGkngglbdk
import Derived.Test.YtgakidimipipeaaGnnhdfgbn
import Derived.Deep.RegionHeld3
namespace Go.Proofs.Ytgakidimipipeaa
open Go.RowKit Go.Sort
set_option linter.unusedVariables false
set_option linter.unusedSimpArgs false
set_option maxRecDepth 100000

theorem zeroUse_w8 : ∀ x ∈ zeroUse, x.width ≤ 8 := fun x hx => by have := zeroUse_width x hx; omega
theorem countUse_is {s : List Nat} (hb : Bytes s) (ho : openedOk 5 zeroUse s = true) : ∃ c, c * 7 = (bodyL s).length ∧ (itemsR zeroUse (bodyL s)).length = c ∧ lowsU (itemsR zeroUse (bodyL s)).flatten = bodyL s ∧ roomU (itemsR zeroUse (bodyL s)).flatten ∧ bO s = bodyL s ∧ sealL 5 (bodyL s) = s ∧ (bodyL s).length ≤ 120 := by
  unfold openedOk at ho
  simp only [Bool.and_eq_true, decide_eq_true_eq] at ho
  obtain ⟨⟨h1, h2⟩, h3⟩ := ho
  have hbo : bO s = bodyL s := if_pos h1
  rw [zeroUse_widths] at h3
  obtain ⟨c, hc⟩ := Nat.dvd_of_mod_eq_zero h3
  have hc' : c * 7 = (bodyL s).length := by rw [hc, Nat.mul_comm]
  obtain ⟨i1, i2, i3⟩ := items_whole zeroUse_cons zeroUse_w8 (bodyL_byt hb) c (by rw [zeroUse_widths]; exact hc')
  unfold openB at h1
  obtain ⟨_, h5, h6⟩ := of_decide_eq_true h1
  rw [h2] at h6
  refine ⟨c, hc', ?_, i2, i3, hbo, h6, h5⟩
  unfold itemsR
  rw [runD_length, i1]
theorem readUse_yes {s : List Nat} (hb : Bytes s) (ho : openedOk 5 zeroUse s = true) : readUse s = if upUse (itemsR zeroUse (bodyL s)) = true then (itemsR zeroUse (bodyL s), 0) else ([], 21) := by
  obtain ⟨c, _, _, i2, i3, hbo, h6, _⟩ := countUse_is hb ho
  obtain ⟨w1, w2⟩ := wr_room i3
  unfold readUse
  rw [hbo]
  by_cases hu : upUse (itemsR zeroUse (bodyL s)) = true
  · have e : writeUse (itemsR zeroUse (bodyL s)) = (sealL 5 (wrB (itemsR zeroUse (bodyL s)).flatten), 0) := if_neg (by rw [hu, w1]; simp)
    rw [e, w2, i2, if_pos ⟨rfl, h6⟩, if_pos hu]
  · have hu' : upUse (itemsR zeroUse (bodyL s)) = false := by simpa using hu
    rw [writeUse_no hu', if_neg (by rintro ⟨h, _⟩; exact absurd h (by decide)), if_neg hu]
theorem readUse_no {s : List Nat} (hs : s.length = 128) (hb : Bytes s) (ho : openedOk 5 zeroUse s = false) : readUse s = ([], 21) := by
  unfold readUse
  by_cases hc : (writeUse (itemsR zeroUse (bO s))).2 = 0 ∧ (writeUse (itemsR zeroUse (bO s))).1 = s
  · obtain ⟨h1, h2⟩ := hc
    exfalso
    have hL := itemsUse_is (bO_bytes hb)
    obtain ⟨L, hLe⟩ : ∃ L, itemsR zeroUse (bO s) = L := ⟨_, rfl⟩
    rw [hLe] at h1 h2 hL
    by_cases hn : upUse L = false ∨ wrF L.flatten = true
    · have e : writeUse L = (noughts, 1) := if_pos hn
      rw [e] at h1
      exact absurd h1 (by decide)
    · have e : writeUse L = (sealL 5 (wrB L.flatten), 0) := if_neg hn
      rw [e] at h2
      have hu : upUse L = true := by cases h : upUse L; exact absurd (.inl h) hn; rfl
      have hl := upUse_len hu
      have hw := wrUse_len hL
      have h120 : (wrB L.flatten).length ≤ 120 := by rw [hw]; omega
      have h2' : sealL 5 (wrB L.flatten) = s := h2
      have : openedOk 5 zeroUse s = true := by
        unfold openedOk
        rw [← h2', openB_sealL (by decide) h120, sealL_kind, sealL_body _ _ h120, hw, zeroUse_widths, Nat.mul_mod_left]
        rfl
      rw [this] at ho
      exact absurd ho (by decide)
  · rw [if_neg hc]
theorem numsUse_at {L : List (List FldD)} (hL : ∀ x ∈ L, IsFUse x) {j : Nat} {x : List FldD} (hx : L[j]? = some x) (i : Nat) (hi : i < 3) : (numsV (zsOf L.flatten))[j * 3 + i]? = (numsV (zsOf x))[i]? := by
  have e : numsV (zsOf L.flatten) = flatR (L.map fun x => numsV (zsOf x)) := by
    clear hx hL
    induction L with
    | nil => rfl
    | cons y L ih =>
      rw [List.flatten_cons, zsOf_append, numsV_append, ih]
      rfl
  rw [e]
  refine flatR_get ?_ (by rw [List.getElem?_map, hx]; rfl) hi
  intro p hp
  obtain ⟨y, hy, rfl⟩ := List.mem_map.1 hp
  show (numsV (zsOf y)).length = _
  rw [numsV_length, zsOf_length, isFUse_length (hL y hy)]
theorem numsUse_len {L : List (List FldD)} (hL : ∀ x ∈ L, IsFUse x) : (numsV (zsOf L.flatten)).length = L.length * 3 := by rw [numsV_length, zsOf_length, flenUse hL]
theorem itemsUse_pos {b : List Nat} (hb : Bytes b) : ∀ x ∈ itemsR zeroUse b, ∃ z0 z1 z2 : Int, x = fldUse z0 z1 z2 ∧ (0 ≤ z0 ∧ z0 < 4294967296) ∧ (0 ≤ z1 ∧ z1 < 4294967296) ∧ (0 ≤ z2 ∧ z2 < 4294967296) := by
  intro x hx
  obtain ⟨b', rfl, hb'⟩ := runD_mem _ _ _ x hx
  have hpos := stO_pos zeroUse_width (hb' hb)
  obtain ⟨z0, z1, z2, h, _⟩ := outUse_is (hb' hb)
  rw [h] at hpos
  refine ⟨z0, z1, z2, h, hpos (⟨.i64, 2, z0⟩) (by simp [fldUse]), hpos (⟨.i64, 1, z1⟩) (by simp [fldUse]), hpos (⟨.u32, 4, z2⟩) (by simp [fldUse])⟩
theorem widthsR_Use : zeroUse.map (fun x => (x.width : Int)) = [2, 1, 4] := rfl
theorem rowUse_len (L : List (List FldD)) (hL : ∀ x ∈ L, IsFUse x) : ∀ p ∈ L.map rowV, p.length = 3 := by
  intro p hp
  obtain ⟨y, hy, rfl⟩ := List.mem_map.1 hp
  unfold rowV
  rw [List.length_map, isFUse_length (hL y hy)]
end Go.Proofs.Ytgakidimipipeaa
