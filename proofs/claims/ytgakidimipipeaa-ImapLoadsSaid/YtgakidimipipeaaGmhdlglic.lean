/- What the map's sectors are, and what they are read as: plain facts. -/
import Derived.Test.YtgakidimipipeaaGpipgcjga
import Derived.Test.YtgakidimipipeaaGobnibbej
namespace Go.Proofs.Ytgakidimipipeaa
open Go.RowKit Go.Sort
set_option linter.unusedVariables false
set_option linter.unusedSimpArgs false
set_option maxRecDepth 100000

theorem rd_backM : ∀ (l m : List FldD) (r : List Nat), l.map (fun x => (x.kind, x.width)) = m.map (fun x => (x.kind, x.width)) → (∀ x ∈ l, 0 ≤ x.z ∧ u64of x.z < 256 ^ x.width ∧ x.z < 18446744073709551616) →
    stS (.rd (lowsU l ++ r)) m = .rd r ∧ stO (.rd (lowsU l ++ r)) m = l
  | [], [], r, _, _ => ⟨rfl, rfl⟩
  | [], y :: m, r, h, _ => by simp at h
  | x :: l, [], r, h, _ => by simp at h
  | x :: l, y :: m, r, h, hx => by
    simp only [List.map_cons, List.cons.injEq, Prod.mk.injEq] at h
    obtain ⟨⟨hk, hw⟩, h⟩ := h
    obtain ⟨h0, h1, h2⟩ := hx x (List.mem_cons_self ..)
    obtain ⟨i1, i2⟩ := rd_backM l m r h (fun z hz => hx z (List.mem_cons_of_mem _ hz))
    have e : lowsU (x :: l) ++ r = low (u64of x.z) x.width ++ (lowsU l ++ r) := by
      show (low (u64of x.z) x.width ++ lowsU l) ++ r = _
      rw [List.append_assoc]
    have hlen : (low (u64of x.z) x.width).length = x.width := low_length _ _
    have hle : x.width ≤ (low (u64of x.z) x.width ++ (lowsU l ++ r)).length := by rw [List.length_append, hlen]; omega
    have ht : (low (u64of x.z) x.width ++ (lowsU l ++ r)).take x.width = low (u64of x.z) x.width := List.take_left' hlen
    have hd : (low (u64of x.z) x.width ++ (lowsU l ++ r)).drop x.width = lowsU l ++ r := List.drop_left' hlen
    have hnext : PS.next (.rd (low (u64of x.z) x.width ++ (lowsU l ++ r))) y.width (u64of y.z) = .rd (lowsU l ++ r) := by
      rw [← hw]
      exact (if_pos hle).trans (by rw [hd])
    have hnum : (PS.rd (low (u64of x.z) x.width ++ (lowsU l ++ r))).numI y.width y.z = x.z := by
      rw [← hw]
      show ((PS.num (.rd _) x.width (u64of y.z) : Nat) : Int) = x.z
      have : PS.num (.rd (low (u64of x.z) x.width ++ (lowsU l ++ r))) x.width (u64of y.z) = u64of x.z := (if_pos hle).trans (by rw [ht]; exact le_low _ _ h1)
      rw [this]
      unfold u64of
      omega
    rw [e]
    refine ⟨?_, ?_⟩
    · show stS (PS.next (.rd _) y.width (u64of y.z)) m = _
      rw [hnext]
      exact i1
    · show { y with z := (PS.rd _).numI y.width y.z } :: stO (PS.next (.rd _) y.width (u64of y.z)) m = _
      rw [hnext, hnum, i2]
      cases x
      cases y
      simp only at hk hw ⊢
      subst hk hw
      rfl
theorem fldS_good {s : SlotD} (h : SlotOk s) : ∀ y ∈ fldS s, 0 ≤ y.z ∧ u64of y.z < 256 ^ y.width ∧ y.z < 18446744073709551616 := by
  obtain ⟨h1, h2, h3, h4, h5, h6, h7, h8⟩ := h
  intro y hy
  unfold fldS fldSlot at hy
  simp only [List.mem_cons, List.not_mem_nil, or_false] at hy
  unfold u64of
  rcases hy with rfl | rfl | rfl | rfl <;> dsimp only <;> omega
theorem runD_backM : ∀ (sl : List SlotD) (r : List Nat), (∀ s ∈ sl, SlotOk s) → runD zeroSlot [] (.rd (lowsU (sl.map fldS).flatten ++ r)) sl.length = sl.map fldS
  | [], r, _ => rfl
  | x :: L, r, h => by
    have e : lowsU ((x :: L).map fldS).flatten ++ r = lowsU (fldS x) ++ (lowsU (L.map fldS).flatten ++ r) := by
      rw [List.map_cons, List.flatten_cons, lowsU_append, List.append_assoc]
    obtain ⟨s1, s2⟩ := rd_backM (fldS x) zeroSlot (lowsU (L.map fldS).flatten ++ r) rfl (fldS_good (h x (List.mem_cons_self ..)))
    rw [e, List.length_cons, runD_shift, s1, s2, runD_backM L r fun y hy => h y (List.mem_cons_of_mem _ hy)]
    rfl
theorem map_room {sl : List SlotD} (h : ∀ s ∈ sl, SlotOk s) : roomU (sl.map fldS).flatten := by
  intro y hy
  obtain ⟨l, hl, hy⟩ := List.mem_flatten.1 hy
  obtain ⟨s, hs, rfl⟩ := List.mem_map.1 hl
  exact (fldS_good (h s hs) y hy).2.1
theorem map_up {sl : List SlotD} (h : ∀ s ∈ sl, SlotOk s) (hl : sl.length ≤ 10) : upSlot (sl.map fldS) = true := by
  unfold upSlot
  rw [Bool.and_eq_true, decide_eq_true_eq, List.length_map]
  refine ⟨hl, List.all_eq_true.2 fun l hl => ?_⟩
  obtain ⟨s, hs, rfl⟩ := List.mem_map.1 hl
  obtain ⟨_, _, _, _, _, _, h7, h8⟩ := h s hs
  exact decide_eq_true ⟨h7, h8⟩
theorem map_lows {sl : List SlotD} (h : ∀ s ∈ sl, SlotOk s) : (lowsU (sl.map fldS).flatten).length = sl.length * 11 := by
  have hL : ∀ x ∈ sl.map fldS, IsFSlot x := by
    intro x hx
    obtain ⟨s, hs, rfl⟩ := List.mem_map.1 hx
    exact fldS_ok (h s hs)
  have h1 := wrSlot_len hL
  rw [(wr_room (map_room h)).2, List.length_map] at h1
  exact h1
theorem map_written {sl : List SlotD} (h : ∀ s ∈ sl, SlotOk s) (hl : sl.length ≤ 10) : writeSlot (sl.map fldS) = (sealL 4 (lowsU (sl.map fldS).flatten), 0) := by
  have hw := wr_room (map_room h)
  unfold writeSlot
  rw [if_neg (by rw [map_up h hl, hw.1]; simp), hw.2]
/-- What was written is read back. -/
theorem map_back {sl : List SlotD} (h : ∀ s ∈ sl, SlotOk s) (hl : sl.length ≤ 10) : readSlot (writeSlot (sl.map fldS)).1 = (sl.map fldS, 0) := by
  have hw := map_written h hl
  have hlen := map_lows h
  have hb : bO (writeSlot (sl.map fldS)).1 = lowsU (sl.map fldS).flatten := by rw [hw]; exact bO_seal (by decide) (by omega)
  have hby : Bytes (lowsU (sl.map fldS).flatten) := by
    rw [← hb]
    exact bO_bytes (writeSlot_bytes (fun x hx => by obtain ⟨s, hs, rfl⟩ := List.mem_map.1 hx; exact fldS_ok (h s hs)))
  have hc := (items_whole zeroSlot_cons zeroSlot_w8 hby sl.length (by rw [zeroSlot_widths]; omega)).1
  have hi : itemsR zeroSlot (lowsU (sl.map fldS).flatten) = sl.map fldS := by
    unfold itemsR
    rw [hc]
    have := runD_backM sl [] h
    rwa [List.append_nil] at this
  unfold readSlot
  rw [hb, hi]
  exact if_pos ⟨by rw [hw], rfl⟩
theorem part_ok {sl : List SlotD} (h : ∀ s ∈ sl, SlotOk s) (i m : Nat) : ∀ s ∈ (sl.drop i).take m, SlotOk s := fun s hs => h s (List.mem_of_mem_drop (List.mem_of_mem_take hs))
theorem secM_back {sl : List SlotD} (h : ∀ s ∈ sl, SlotOk s) (k : Nat) : readSlot (secM sl k) = (((sl.drop (k * 10)).take 10).map fldS, 0) := map_back (part_ok h _ _) (List.length_take_le _ _)
theorem secM_bytes {sl : List SlotD} (h : ∀ s ∈ sl, SlotOk s) (k : Nat) : Bytes (secM sl k) := writeSlot_bytes (fun x hx => by obtain ⟨s, hs, rfl⟩ := List.mem_map.1 hx; exact fldS_ok (part_ok h _ _ s hs))
/-- Tens of slots, one behind the other. -/
theorem tens_take (sl : List SlotD) (k : Nat) : sl.take (k * 10) ++ (sl.drop (k * 10)).take 10 = sl.take ((k + 1) * 10) := by
  rw [show (k + 1) * 10 = k * 10 + 10 by omega, List.take_add]
theorem tens_all (sl : List SlotD) : sl.take (tens sl.length * 10) = sl := List.take_of_length_le (by unfold tens; omega)
end Go.Proofs.Ytgakidimipipeaa
