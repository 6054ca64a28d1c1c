/- The document's ReadSlots: what it reads of any sector is what the program reads. Its numbers. -/
import Derived.Test.YtgakidimipipeaaGnijdicfc
import Derived.Test.YtgakidimipipeaaGjoaeepnj
import Derived.Test.YtgakidimipipeaaGnnhdfgbn
import Derived.Deep.RegionHeld3
namespace Go.Proofs.Ytgakidimipipeaa
open Go.RowKit Go.Sort
set_option linter.unusedVariables false
set_option linter.unusedSimpArgs false
set_option maxRecDepth 100000

theorem zeroSlot_w8 : ∀ x ∈ zeroSlot, x.width ≤ 8 := fun x hx => by have := zeroSlot_width x hx; omega
theorem countSlot_is {s : List Nat} (hb : Bytes s) (ho : openedOk 4 zeroSlot s = true) : ∃ c, c * 11 = (bodyL s).length ∧ (itemsR zeroSlot (bodyL s)).length = c ∧ lowsU (itemsR zeroSlot (bodyL s)).flatten = bodyL s ∧ roomU (itemsR zeroSlot (bodyL s)).flatten ∧ bO s = bodyL s ∧ sealL 4 (bodyL s) = s ∧ (bodyL s).length ≤ 120 := by
  unfold openedOk at ho
  simp only [Bool.and_eq_true, decide_eq_true_eq] at ho
  obtain ⟨⟨h1, h2⟩, h3⟩ := ho
  have hbo : bO s = bodyL s := if_pos h1
  rw [zeroSlot_widths] at h3
  obtain ⟨c, hc⟩ := Nat.dvd_of_mod_eq_zero h3
  have hc' : c * 11 = (bodyL s).length := by rw [hc, Nat.mul_comm]
  obtain ⟨i1, i2, i3⟩ := items_whole zeroSlot_cons zeroSlot_w8 (bodyL_byt hb) c (by rw [zeroSlot_widths]; exact hc')
  unfold openB at h1
  obtain ⟨_, h5, h6⟩ := of_decide_eq_true h1
  rw [h2] at h6
  refine ⟨c, hc', ?_, i2, i3, hbo, h6, h5⟩
  unfold itemsR
  rw [runD_length, i1]
theorem readSlot_yes {s : List Nat} (hb : Bytes s) (ho : openedOk 4 zeroSlot s = true) : readSlot s = if upSlot (itemsR zeroSlot (bodyL s)) = true then (itemsR zeroSlot (bodyL s), 0) else ([], 21) := by
  obtain ⟨c, _, _, i2, i3, hbo, h6, _⟩ := countSlot_is hb ho
  obtain ⟨w1, w2⟩ := wr_room i3
  unfold readSlot
  rw [hbo]
  by_cases hu : upSlot (itemsR zeroSlot (bodyL s)) = true
  · have e : writeSlot (itemsR zeroSlot (bodyL s)) = (sealL 4 (wrB (itemsR zeroSlot (bodyL s)).flatten), 0) := if_neg (by rw [hu, w1]; simp)
    rw [e, w2, i2, if_pos ⟨rfl, h6⟩, if_pos hu]
  · have hu' : upSlot (itemsR zeroSlot (bodyL s)) = false := by simpa using hu
    rw [writeSlot_no hu', if_neg (by rintro ⟨h, _⟩; exact absurd h (by decide)), if_neg hu]
theorem readSlot_no {s : List Nat} (hs : s.length = 128) (hb : Bytes s) (ho : openedOk 4 zeroSlot s = false) : readSlot s = ([], 21) := by
  unfold readSlot
  by_cases hc : (writeSlot (itemsR zeroSlot (bO s))).2 = 0 ∧ (writeSlot (itemsR zeroSlot (bO s))).1 = s
  · obtain ⟨h1, h2⟩ := hc
    exfalso
    have hL := itemsSlot_is (bO_bytes hb)
    obtain ⟨L, hLe⟩ : ∃ L, itemsR zeroSlot (bO s) = L := ⟨_, rfl⟩
    rw [hLe] at h1 h2 hL
    by_cases hn : upSlot L = false ∨ wrF L.flatten = true
    · have e : writeSlot L = (noughts, 1) := if_pos hn
      rw [e] at h1
      exact absurd h1 (by decide)
    · have e : writeSlot L = (sealL 4 (wrB L.flatten), 0) := if_neg hn
      rw [e] at h2
      have hu : upSlot L = true := by cases h : upSlot L; exact absurd (.inl h) hn; rfl
      have hl := upSlot_len hu
      have hw := wrSlot_len hL
      have h120 : (wrB L.flatten).length ≤ 120 := by rw [hw]; omega
      have h2' : sealL 4 (wrB L.flatten) = s := h2
      have : openedOk 4 zeroSlot s = true := by
        unfold openedOk
        rw [← h2', openB_sealL (by decide) h120, sealL_kind, sealL_body _ _ h120, hw, zeroSlot_widths, Nat.mul_mod_left]
        rfl
      rw [this] at ho
      exact absurd ho (by decide)
  · rw [if_neg hc]
theorem numsSlot_at {L : List (List FldD)} (hL : ∀ x ∈ L, IsFSlot x) {j : Nat} {x : List FldD} (hx : L[j]? = some x) (i : Nat) (hi : i < 4) : (numsV (zsOf L.flatten))[j * 4 + i]? = (numsV (zsOf x))[i]? := by
  have e : numsV (zsOf L.flatten) = flatR (L.map fun x => numsV (zsOf x)) := by
    clear hx hL
    induction L with
    | nil => rfl
    | cons y L ih =>
      rw [List.flatten_cons, zsOf_append, numsV_append, ih]
      rfl
  rw [e]
  refine flatR_get ?_ (by rw [List.getElem?_map, hx]; rfl) hi
  intro p hp
  obtain ⟨y, hy, rfl⟩ := List.mem_map.1 hp
  show (numsV (zsOf y)).length = _
  rw [numsV_length, zsOf_length, isFSlot_length (hL y hy)]
theorem numsSlot_len {L : List (List FldD)} (hL : ∀ x ∈ L, IsFSlot x) : (numsV (zsOf L.flatten)).length = L.length * 4 := by rw [numsV_length, zsOf_length, flenSlot hL]
theorem itemsSlot_pos {b : List Nat} (hb : Bytes b) : ∀ x ∈ itemsR zeroSlot b, ∃ z0 z1 z2 z3 : Int, x = fldSlot z0 z1 z2 z3 ∧ (0 ≤ z0 ∧ z0 < 4294967296) ∧ (0 ≤ z1 ∧ z1 < 4294967296) ∧ (0 ≤ z2 ∧ z2 < 4294967296) ∧ (0 ≤ z3 ∧ z3 < 4294967296) := by
  intro x hx
  obtain ⟨b', rfl, hb'⟩ := runD_mem _ _ _ x hx
  have hpos := stO_pos zeroSlot_width (hb' hb)
  obtain ⟨z0, z1, z2, z3, h, _⟩ := outSlot_is (hb' hb)
  rw [h] at hpos
  refine ⟨z0, z1, z2, z3, h, hpos (⟨.i64, 4, z0⟩) (by simp [fldSlot]), hpos (⟨.u32, 4, z1⟩) (by simp [fldSlot]), hpos (⟨.i64, 2, z2⟩) (by simp [fldSlot]), hpos (⟨.i64, 1, z3⟩) (by simp [fldSlot])⟩
theorem widthsR_Slot : zeroSlot.map (fun x => (x.width : Int)) = [4, 4, 2, 1] := rfl
theorem rowSlot_len (L : List (List FldD)) (hL : ∀ x ∈ L, IsFSlot x) : ∀ p ∈ L.map rowV, p.length = 4 := by
  intro p hp
  obtain ⟨y, hy, rfl⟩ := List.mem_map.1 hp
  unfold rowV
  rw [List.length_map, isFSlot_length (hL y hy)]
def RReadsSlotPost (w : World) (r : List (List FldD) × Int) (e : Ending) (w' : World) : Prop := Below w.heap.size w w' ∧ ∃ a c, e = .returned (.tuple #[.slice a r.1.length c, .bool (decide (r.2 = 0))]) ∧ OwnsR' w.heap.size w' 27 4 (.slice a r.1.length c) (r.1.map rowV)
theorem infoRSlot : (Try.prog.info? 27).map (fun i => (i.zero, i.size, i.bytes)) = some (some (.agg #[.int .i64 0, .int .u32 0, .int .i64 0, .int .i64 0]), 4, 32) := by kernel_rfl
end Go.Proofs.Ytgakidimipipeaa
