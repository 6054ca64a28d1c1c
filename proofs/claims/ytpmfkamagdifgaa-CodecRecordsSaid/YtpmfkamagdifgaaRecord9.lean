/- The document's ReadRecords: what it reads of any sector is what the program reads. Its numbers. -/
import Derived.Test.YtpmfkamagdifgaaRecord8
import Derived.Test.YtpmfkamagdifgaaOpened
import Derived.Test.YtpmfkamagdifgaaSIs
import Derived.Deep.RegionHeld3
namespace Go.Proofs.Ytpmfkamagdifgaa
open Go.RowKit Go.Sort
set_option linter.unusedVariables false
set_option linter.unusedSimpArgs false
set_option maxRecDepth 100000

theorem zeroRecord_w8 : ∀ x ∈ zeroRecord, x.width ≤ 8 := fun x hx => by have := zeroRecord_width x hx; omega
theorem countRecord_is {s : List Nat} (hb : Bytes s) (ho : openedOk 7 zeroRecord s = true) : ∃ c, c * 9 = (bodyL s).length ∧ (itemsR zeroRecord (bodyL s)).length = c ∧ lowsU (itemsR zeroRecord (bodyL s)).flatten = bodyL s ∧ roomU (itemsR zeroRecord (bodyL s)).flatten ∧ bO s = bodyL s ∧ sealL 7 (bodyL s) = s ∧ (bodyL s).length ≤ 120 := by
  unfold openedOk at ho
  simp only [Bool.and_eq_true, decide_eq_true_eq] at ho
  obtain ⟨⟨h1, h2⟩, h3⟩ := ho
  have hbo : bO s = bodyL s := if_pos h1
  rw [zeroRecord_widths] at h3
  obtain ⟨c, hc⟩ := Nat.dvd_of_mod_eq_zero h3
  have hc' : c * 9 = (bodyL s).length := by rw [hc, Nat.mul_comm]
  obtain ⟨i1, i2, i3⟩ := items_whole zeroRecord_cons zeroRecord_w8 (bodyL_byt hb) c (by rw [zeroRecord_widths]; exact hc')
  unfold openB at h1
  obtain ⟨_, h5, h6⟩ := of_decide_eq_true h1
  rw [h2] at h6
  refine ⟨c, hc', ?_, i2, i3, hbo, h6, h5⟩
  unfold itemsR
  rw [runD_length, i1]
theorem readRecord_yes {s : List Nat} (hb : Bytes s) (ho : openedOk 7 zeroRecord s = true) : readRecord s = if upRecord (itemsR zeroRecord (bodyL s)) = true then (itemsR zeroRecord (bodyL s), 0) else ([], 21) := by
  obtain ⟨c, _, _, i2, i3, hbo, h6, _⟩ := countRecord_is hb ho
  obtain ⟨w1, w2⟩ := wr_room i3
  unfold readRecord
  rw [hbo]
  by_cases hu : upRecord (itemsR zeroRecord (bodyL s)) = true
  · have e : writeRecord (itemsR zeroRecord (bodyL s)) = (sealL 7 (wrB (itemsR zeroRecord (bodyL s)).flatten), 0) := if_neg (by rw [hu, w1]; simp)
    rw [e, w2, i2, if_pos ⟨rfl, h6⟩, if_pos hu]
  · have hu' : upRecord (itemsR zeroRecord (bodyL s)) = false := by simpa using hu
    rw [writeRecord_no hu', if_neg (by rintro ⟨h, _⟩; exact absurd h (by decide)), if_neg hu]
theorem readRecord_no {s : List Nat} (hs : s.length = 128) (hb : Bytes s) (ho : openedOk 7 zeroRecord s = false) : readRecord s = ([], 21) := by
  unfold readRecord
  by_cases hc : (writeRecord (itemsR zeroRecord (bO s))).2 = 0 ∧ (writeRecord (itemsR zeroRecord (bO s))).1 = s
  · obtain ⟨h1, h2⟩ := hc
    exfalso
    have hL := itemsRecord_is (bO_bytes hb)
    obtain ⟨L, hLe⟩ : ∃ L, itemsR zeroRecord (bO s) = L := ⟨_, rfl⟩
    rw [hLe] at h1 h2 hL
    by_cases hn : upRecord L = false ∨ wrF L.flatten = true
    · have e : writeRecord L = (noughts, 1) := if_pos hn
      rw [e] at h1
      exact absurd h1 (by decide)
    · have e : writeRecord L = (sealL 7 (wrB L.flatten), 0) := if_neg hn
      rw [e] at h2
      have hu : upRecord L = true := by cases h : upRecord L; exact absurd (.inl h) hn; rfl
      have hl := upRecord_len hu
      have hw := wrRecord_len hL
      have h120 : (wrB L.flatten).length ≤ 120 := by rw [hw]; omega
      have h2' : sealL 7 (wrB L.flatten) = s := h2
      have : openedOk 7 zeroRecord s = true := by
        unfold openedOk
        rw [← h2', openB_sealL (by decide) h120, sealL_kind, sealL_body _ _ h120, hw, zeroRecord_widths, Nat.mul_mod_left]
        rfl
      rw [this] at ho
      exact absurd ho (by decide)
  · rw [if_neg hc]
theorem numsRecord_at {L : List (List FldD)} (hL : ∀ x ∈ L, IsFRecord x) {j : Nat} {x : List FldD} (hx : L[j]? = some x) (i : Nat) (hi : i < 4) : (numsV (zsOf L.flatten))[j * 4 + i]? = (numsV (zsOf x))[i]? := by
  have e : numsV (zsOf L.flatten) = flatR (L.map fun x => numsV (zsOf x)) := by
    clear hx hL
    induction L with
    | nil => rfl
    | cons y L ih =>
      rw [List.flatten_cons, zsOf_append, numsV_append, ih]
      rfl
  rw [e]
  refine flatR_get ?_ (by rw [List.getElem?_map, hx]; rfl) hi
  intro p hp
  obtain ⟨y, hy, rfl⟩ := List.mem_map.1 hp
  show (numsV (zsOf y)).length = _
  rw [numsV_length, zsOf_length, isFRecord_length (hL y hy)]
theorem numsRecord_len {L : List (List FldD)} (hL : ∀ x ∈ L, IsFRecord x) : (numsV (zsOf L.flatten)).length = L.length * 4 := by rw [numsV_length, zsOf_length, flenRecord hL]
theorem itemsRecord_pos {b : List Nat} (hb : Bytes b) : ∀ x ∈ itemsR zeroRecord b, ∃ z0 z1 z2 z3 : Int, x = fldRecord z0 z1 z2 z3 ∧ (0 ≤ z0 ∧ z0 < 4294967296) ∧ (0 ≤ z1 ∧ z1 < 4294967296) ∧ (0 ≤ z2 ∧ z2 < 4294967296) ∧ (0 ≤ z3 ∧ z3 < 4294967296) := by
  intro x hx
  obtain ⟨b', rfl, hb'⟩ := runD_mem _ _ _ x hx
  have hpos := stO_pos zeroRecord_width (hb' hb)
  obtain ⟨z0, z1, z2, z3, h, _⟩ := outRecord_is (hb' hb)
  rw [h] at hpos
  refine ⟨z0, z1, z2, z3, h, hpos (⟨.u32, 2, z0⟩) (by simp [fldRecord]), hpos (⟨.u32, 4, z1⟩) (by simp [fldRecord]), hpos (⟨.i64, 2, z2⟩) (by simp [fldRecord]), hpos (⟨.i64, 1, z3⟩) (by simp [fldRecord])⟩
theorem widthsR_Record : zeroRecord.map (fun x => (x.width : Int)) = [2, 4, 2, 1] := rfl
theorem rowRecord_len (L : List (List FldD)) (hL : ∀ x ∈ L, IsFRecord x) : ∀ p ∈ L.map rowV, p.length = 4 := by
  intro p hp
  obtain ⟨y, hy, rfl⟩ := List.mem_map.1 hp
  unfold rowV
  rw [List.length_map, isFRecord_length (hL y hy)]
def RReadsRecordPost (w : World) (r : List (List FldD) × Int) (e : Ending) (w' : World) : Prop := Below w.heap.size w w' ∧ ∃ a c, e = .returned (.tuple #[.slice a r.1.length c, .bool (decide (r.2 = 0))]) ∧ OwnsR' w.heap.size w' 58 4 (.slice a r.1.length c) (r.1.map rowV)
theorem infoRRecord : (Try.prog.info? 58).map (fun i => (i.zero, i.size, i.bytes)) = some (some (.agg #[.int .u32 0, .int .u32 0, .int .i64 0, .int .i64 0]), 4, 24) := by kernel_rfl
end Go.Proofs.Ytpmfkamagdifgaa
