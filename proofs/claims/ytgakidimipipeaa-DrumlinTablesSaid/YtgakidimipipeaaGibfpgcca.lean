/- What the map's sectors are, and what they are read as: plain facts. The laying of one Use through a port, and of many, one behind the other (part.Each). Whether there is more; the laying of a list of Uses (part.Rest). The laying of a list of Uses (part.Rest's closure). -/
import Derived.Test.YtgakidimipipeaaGkngglbdk
import Derived.Test.YtgakidimipipeaaGanjhiidd
import Derived.Test.YtgakidimipipeaaGhmedploj
import Derived.Shelf.Abstract
import Derived.Test.YtgakidimipipeaaGbndcdfka
import Derived.Deep.RegionWith
import Derived.Deep.RegionHeld3
namespace Go.Proofs.Ytgakidimipipeaa
open Go.RowKit Go.Sort
set_option linter.unusedVariables false
set_option linter.unusedSimpArgs false
set_option maxRecDepth 100000

theorem rd_backM : ∀ (l m : List FldD) (r : List Nat), l.map (fun x => (x.kind, x.width)) = m.map (fun x => (x.kind, x.width)) → (∀ x ∈ l, 0 ≤ x.z ∧ u64of x.z < 256 ^ x.width ∧ x.z < 18446744073709551616) →
    stS (.rd (lowsU l ++ r)) m = .rd r ∧ stO (.rd (lowsU l ++ r)) m = l
  | [], [], r, _, _ => ⟨rfl, rfl⟩
  | [], y :: m, r, h, _ => by simp at h
  | x :: l, [], r, h, _ => by simp at h
  | x :: l, y :: m, r, h, hx => by
    simp only [List.map_cons, List.cons.injEq, Prod.mk.injEq] at h
    obtain ⟨⟨hk, hw⟩, h⟩ := h
    obtain ⟨h0, h1, h2⟩ := hx x (List.mem_cons_self ..)
    obtain ⟨i1, i2⟩ := rd_backM l m r h (fun z hz => hx z (List.mem_cons_of_mem _ hz))
    have e : lowsU (x :: l) ++ r = low (u64of x.z) x.width ++ (lowsU l ++ r) := by
      show (low (u64of x.z) x.width ++ lowsU l) ++ r = _
      rw [List.append_assoc]
    have hlen : (low (u64of x.z) x.width).length = x.width := low_length _ _
    have hle : x.width ≤ (low (u64of x.z) x.width ++ (lowsU l ++ r)).length := by rw [List.length_append, hlen]; omega
    have ht : (low (u64of x.z) x.width ++ (lowsU l ++ r)).take x.width = low (u64of x.z) x.width := List.take_left' hlen
    have hd : (low (u64of x.z) x.width ++ (lowsU l ++ r)).drop x.width = lowsU l ++ r := List.drop_left' hlen
    have hnext : PS.next (.rd (low (u64of x.z) x.width ++ (lowsU l ++ r))) y.width (u64of y.z) = .rd (lowsU l ++ r) := by
      rw [← hw]
      exact (if_pos hle).trans (by rw [hd])
    have hnum : (PS.rd (low (u64of x.z) x.width ++ (lowsU l ++ r))).numI y.width y.z = x.z := by
      rw [← hw]
      show ((PS.num (.rd _) x.width (u64of y.z) : Nat) : Int) = x.z
      have : PS.num (.rd (low (u64of x.z) x.width ++ (lowsU l ++ r))) x.width (u64of y.z) = u64of x.z := (if_pos hle).trans (by rw [ht]; exact le_low _ _ h1)
      rw [this]
      unfold u64of
      omega
    rw [e]
    refine ⟨?_, ?_⟩
    · show stS (PS.next (.rd _) y.width (u64of y.z)) m = _
      rw [hnext]
      exact i1
    · show { y with z := (PS.rd _).numI y.width y.z } :: stO (PS.next (.rd _) y.width (u64of y.z)) m = _
      rw [hnext, hnum, i2]
      cases x
      cases y
      simp only at hk hw ⊢
      subst hk hw
      rfl
theorem fldS_good {s : SlotD} (h : SlotOk s) : ∀ y ∈ fldS s, 0 ≤ y.z ∧ u64of y.z < 256 ^ y.width ∧ y.z < 18446744073709551616 := by
  obtain ⟨h1, h2, h3, h4, h5, h6, h7, h8⟩ := h
  intro y hy
  unfold fldS fldSlot at hy
  simp only [List.mem_cons, List.not_mem_nil, or_false] at hy
  unfold u64of
  rcases hy with rfl | rfl | rfl | rfl <;> dsimp only <;> omega
theorem runD_backM : ∀ (sl : List SlotD) (r : List Nat), (∀ s ∈ sl, SlotOk s) → runD zeroSlot [] (.rd (lowsU (sl.map fldS).flatten ++ r)) sl.length = sl.map fldS
  | [], r, _ => rfl
  | x :: L, r, h => by
    have e : lowsU ((x :: L).map fldS).flatten ++ r = lowsU (fldS x) ++ (lowsU (L.map fldS).flatten ++ r) := by
      rw [List.map_cons, List.flatten_cons, lowsU_append, List.append_assoc]
    obtain ⟨s1, s2⟩ := rd_backM (fldS x) zeroSlot (lowsU (L.map fldS).flatten ++ r) rfl (fldS_good (h x (List.mem_cons_self ..)))
    rw [e, List.length_cons, runD_shift, s1, s2, runD_backM L r fun y hy => h y (List.mem_cons_of_mem _ hy)]
    rfl
theorem map_room {sl : List SlotD} (h : ∀ s ∈ sl, SlotOk s) : roomU (sl.map fldS).flatten := by
  intro y hy
  obtain ⟨l, hl, hy⟩ := List.mem_flatten.1 hy
  obtain ⟨s, hs, rfl⟩ := List.mem_map.1 hl
  exact (fldS_good (h s hs) y hy).2.1
theorem map_up {sl : List SlotD} (h : ∀ s ∈ sl, SlotOk s) (hl : sl.length ≤ 10) : upSlot (sl.map fldS) = true := by
  unfold upSlot
  rw [Bool.and_eq_true, decide_eq_true_eq, List.length_map]
  refine ⟨hl, List.all_eq_true.2 fun l hl => ?_⟩
  obtain ⟨s, hs, rfl⟩ := List.mem_map.1 hl
  obtain ⟨_, _, _, _, _, _, h7, h8⟩ := h s hs
  exact decide_eq_true ⟨h7, h8⟩
theorem map_lows {sl : List SlotD} (h : ∀ s ∈ sl, SlotOk s) : (lowsU (sl.map fldS).flatten).length = sl.length * 11 := by
  have hL : ∀ x ∈ sl.map fldS, IsFSlot x := by
    intro x hx
    obtain ⟨s, hs, rfl⟩ := List.mem_map.1 hx
    exact fldS_ok (h s hs)
  have h1 := wrSlot_len hL
  rw [(wr_room (map_room h)).2, List.length_map] at h1
  exact h1
theorem map_written {sl : List SlotD} (h : ∀ s ∈ sl, SlotOk s) (hl : sl.length ≤ 10) : writeSlot (sl.map fldS) = (sealL 4 (lowsU (sl.map fldS).flatten), 0) := by
  have hw := wr_room (map_room h)
  unfold writeSlot
  rw [if_neg (by rw [map_up h hl, hw.1]; simp), hw.2]
/-- What was written is read back. -/
theorem map_back {sl : List SlotD} (h : ∀ s ∈ sl, SlotOk s) (hl : sl.length ≤ 10) : readSlot (writeSlot (sl.map fldS)).1 = (sl.map fldS, 0) := by
  have hw := map_written h hl
  have hlen := map_lows h
  have hb : bO (writeSlot (sl.map fldS)).1 = lowsU (sl.map fldS).flatten := by rw [hw]; exact bO_seal (by decide) (by omega)
  have hby : Bytes (lowsU (sl.map fldS).flatten) := by
    rw [← hb]
    exact bO_bytes (writeSlot_bytes (fun x hx => by obtain ⟨s, hs, rfl⟩ := List.mem_map.1 hx; exact fldS_ok (h s hs)))
  have hc := (items_whole zeroSlot_cons zeroSlot_w8 hby sl.length (by rw [zeroSlot_widths]; omega)).1
  have hi : itemsR zeroSlot (lowsU (sl.map fldS).flatten) = sl.map fldS := by
    unfold itemsR
    rw [hc]
    have := runD_backM sl [] h
    rwa [List.append_nil] at this
  unfold readSlot
  rw [hb, hi]
  exact if_pos ⟨by rw [hw], rfl⟩
theorem part_ok {sl : List SlotD} (h : ∀ s ∈ sl, SlotOk s) (i m : Nat) : ∀ s ∈ (sl.drop i).take m, SlotOk s := fun s hs => h s (List.mem_of_mem_drop (List.mem_of_mem_take hs))
theorem secM_back {sl : List SlotD} (h : ∀ s ∈ sl, SlotOk s) (k : Nat) : readSlot (secM sl k) = (((sl.drop (k * 10)).take 10).map fldS, 0) := map_back (part_ok h _ _) (List.length_take_le _ _)
theorem secM_bytes {sl : List SlotD} (h : ∀ s ∈ sl, SlotOk s) (k : Nat) : Bytes (secM sl k) := writeSlot_bytes (fun x hx => by obtain ⟨s, hs, rfl⟩ := List.mem_map.1 hx; exact fldS_ok (part_ok h _ _ s hs))
/-- Tens of slots, one behind the other. -/
theorem tens_take (sl : List SlotD) (k : Nat) : sl.take (k * 10) ++ (sl.drop (k * 10)).take 10 = sl.take ((k + 1) * 10) := by
  rw [show (k + 1) * 10 = k * 10 + 10 by omega, List.take_add]
theorem tens_all (sl : List SlotD) : sl.take (tens sl.length * 10) = sl := List.take_of_length_le (by unfold tens; omega)
end Go.Proofs.Ytgakidimipipeaa

namespace Go.Proofs.Ytgakidimipipeaa
open Go.RowKit Go.Sort
set_option linter.unusedVariables false
set_option linter.unusedSimpArgs false
set_option maxRecDepth 100000

def fldUse (z0 z1 z2 : Int) : List FldD := [⟨.i64, 2, z0⟩, ⟨.i64, 1, z1⟩, ⟨.u32, 4, z2⟩]
def IsFUse (l : List FldD) : Prop := ∃ z0 z1 z2 : Int, l = fldUse z0 z1 z2 ∧ I64 z0 ∧ I64 z1 ∧ (0 ≤ z2 ∧ z2 < 4294967296)
def zeroUse : List FldD := fldUse 0 0 0
theorem zeroUse_is : IsFUse zeroUse := ⟨0, 0, 0, rfl, by unfold I64; omega, by unfold I64; omega, by omega⟩
theorem isFUse_length {l : List FldD} (h : IsFUse l) : l.length = 3 := by obtain ⟨z0, z1, z2, rfl, _⟩ := h; rfl
theorem isFUse_widths {l : List FldD} (h : IsFUse l) : widths l = 7 := by obtain ⟨z0, z1, z2, rfl, _⟩ := h; rfl
set_option maxHeartbeats 1600000 in
theorem layUse_is {l : List FldD} {gx : Nat} {w0 w : World} {pv : Value} {S : PS} (hl : IsFUse l) (h : LayAt l gx 123 w0 pv S 0 w) :
    Calls Try.prog 72 #[pv, .pointer (some ⟨gx, 0, none⟩)] w fun e w' => e = .returned (.tuple #[]) ∧ LayAt l gx 123 w0 pv S 3 w' := by
  obtain ⟨z0, z1, z2, rfl, k0, k1, k2⟩ := hl
  have H := Lib.hid h
  clear h
  go_enter Try.func72, Try.ntmps72
  go_wp2_with fail
  refine (lay_i64 (q := 2) H.out rfl k0 (by decide) (by decide)).mono ?_
  rintro e w1 ⟨rfl, h1⟩
  have H1 := Lib.hid h1
  clear h1 H
  go_wp2_with fail
  refine (lay_i64 (q := 1) H1.out rfl k1 (by decide) (by decide)).mono ?_
  rintro e w2 ⟨rfl, h2⟩
  have H2 := Lib.hid h2
  clear h2 H1
  go_wp2_with fail
  refine (lay_u32 (q := 4) H2.out rfl k2 (by decide) (by decide)).mono ?_
  rintro e w3 ⟨rfl, h3⟩
  have H3 := Lib.hid h3
  clear h3 H2
  go_wp2
  go_end0
  exact ⟨rfl, H3.out⟩
theorem infoUse : (Try.prog.info? 123).map (fun i => (i.zero, i.size, i.bytes)) = some (some (.agg #[.int .i64 0, .int .i64 0, .int .u32 0]), 3, 24) := by kernel_rfl
set_option maxHeartbeats 1600000 in
theorem eachUse_is {w0 : World} {pv : Value} {S0 : PS} (L : List (List FldD)) (hL : ∀ x ∈ L, IsFUse x) (a : Option Addr) (cap : Nat) (hr : ReadsR w0 a 3 (L.map rowV)) (hap : L ≠ [] → ∀ b off, a = some ⟨b, off, none⟩ → b < w0.heap.size ∧ Apart w0 pv S0 b) (hport : IsPort w0 pv S0)
    (K : Nat) (hK : K ≤ 2000) (hLl : L.length ≤ 2000) (hfit : ∀ i, i < K → (runS zeroUse L S0 i).fits 7) (gm : Nat) (caps : Array Value) (eg : ∀ args w, (callFunc gm args).run Try.prog w = .ok (.enter gm args) w)
    (hmore : ∀ (i : Nat) (W : World) (v : Value), i ≤ K → EachAt 123 3 w0 pv S0 W (runS zeroUse L S0 i) v (runD zeroUse L S0 i) → Calls Try.prog gm (#[.int .i64 (i : Int)] ++ caps) W fun e w' => e = .returned (.bool (decide (i < K))) ∧ W = w') :
    Calls Try.prog 110 #[pv, .slice a L.length cap, .func (.func gm) #[] caps, .func (.func 72) #[] #[]] w0 fun e w' => ∃ v, e = .returned v ∧ EachAt 123 3 w0 pv S0 w' (runS zeroUse L S0 K) v (runD zeroUse L S0 K) := by
  obtain ⟨n, hn⟩ : ∃ n, L.length = n := ⟨_, rfl⟩
  have HN := Lib.hid hn
  have HST := Lib.hid (each_start 123 3 hport)
  have HL := Lib.hid hL
  have HR := Lib.hid hr
  have HAP := Lib.hid hap
  have HF := Lib.hid hfit
  have HM := Lib.hid hmore
  rw [hn] at hLl ⊢
  clear hn hL hr hap hfit hmore hport
  go_enter Try.func110, Try.ntmps110
  go_wp2_with fail
  go_loopw [9, 10] (fun v i wr => ∃ k : Nat, k ≤ K ∧ i = .int .i64 k ∧ Hid (EachAt 123 3 w0 pv S0 wr (runS zeroUse L S0 k) v (runD zeroUse L S0 k))) (fun _ i _ => K - (intOf i).toNat)
  case atStart => exact ⟨0, Nat.zero_le _, rfl, HST.out⟩
  case round =>
    rename_i v9 _ _
    obtain ⟨k, hk, rfl, HE⟩ := hrel
    have hm := HM.out k wr _ hk HE.out
    by_cases hlt : k < K
    · have hd : decide (k < K) = true := decide_eq_true hlt
      rw [hd] at hm
      have HMK := Lib.hid hm
      have hfk := HF.out k hlt
      obtain ⟨S, hS⟩ : ∃ S, runS zeroUse L S0 k = S := ⟨_, rfl⟩
      obtain ⟨Dn, hD⟩ : ∃ Dn, runD zeroUse L S0 k = Dn := ⟨_, rfl⟩
      have hDl : Dn.length = k := by rw [← hD]; exact runD_length _ _ _ _
      have HS : Hid (runS zeroUse L S0 (k + 1) = stS S (itemAt zeroUse L k) ∧ runD zeroUse L S0 (k + 1) = Dn ++ [stO S (itemAt zeroUse L k)]) := by show _ ∧ _; rw [← hS, ← hD]; exact ⟨rfl, rfl⟩
      rw [hS] at hfk
      rw [hS, hD] at HE
      have HDL := Lib.hid hDl
      clear hm hd hS hD hDl
      have hx0 : (0 : Int) ≤ (k : Int) := by omega
      by_cases hil : k < n
      · obtain ⟨x, hx⟩ : ∃ x, L[k]? = some x := ⟨_, List.getElem?_eq_getElem (by rw [HN.out]; exact hil)⟩
        have hit : itemAt zeroUse L k = x := itemAt_in hx
        rw [hit] at HS
        have hLne : L ≠ [] := by rintro rfl; simp at hx
        have hxi := HL.out x (List.mem_of_getElem? hx)
        have hxw := isFUse_widths hxi
        have HXI := Lib.hid hxi
        obtain ⟨z0, z1, z2, rfl, k0, k1, k2⟩ := hxi
        obtain ⟨b, off, rfl, hb, hc⟩ := HR.out.row (show (L.map rowV)[k]? = some (rowV (fldUse z0 z1 z2)) by rw [List.getElem?_map, hx]; rfl)
        obtain ⟨_, hapb⟩ := HAP.out hLne b off rfl
        have hcell : ∀ (i : Nat) (u : Value), (rowV (fldUse z0 z1 z2))[i]? = some u → (wr.alloc (.cells #[.int .i64 0, .int .i64 0, .int .u32 0] 123)).cell? ⟨b, off + k * 3 + i, none⟩ = some u := fun i u hi => by
          have h1 := hc i u hi
          rw [← Nat.add_assoc] at h1
          refine ((below_box wr (.cells #[.int .i64 0, .int .i64 0, .int .u32 0] 123)).cell (p := ⟨b, off + k * 3 + i, none⟩) (Nat.lt_of_lt_of_le hb HE.out.went.size)).trans ?_
          exact (World.cell?_of_block (a := ⟨b, off + k * 3 + i, none⟩) (HE.out.went.block b hb hapb (by omega))).trans h1
        have c0 : (wr.alloc (.cells #[.int .i64 0, .int .i64 0, .int .u32 0] 123)).cell? ⟨b, off + k * 3, none⟩ = some (.int .i64 z0) := hcell 0 _ rfl
        have c1 : (wr.alloc (.cells #[.int .i64 0, .int .i64 0, .int .u32 0] 123)).cell? ⟨b, off + k * 3 + 1, none⟩ = some (.int .i64 z1) := hcell 1 _ rfl
        have c2 : (wr.alloc (.cells #[.int .i64 0, .int .i64 0, .int .u32 0] 123)).cell? ⟨b, off + k * 3 + 2, none⟩ = some (.int .u32 z2) := hcell 2 _ rfl
        have HLAY : Hid (LayAt (fldUse z0 z1 z2) wr.heap.size 123 (wr.alloc (.cells #[.int .i64 z0, .int .i64 z1, .int .u32 z2] 123)) pv S 0 (wr.alloc (.cells #[.int .i64 z0, .int .i64 z1, .int .u32 z2] 123))) := Lib.hid (HE.out.lay (fldUse z0 z1 z2) (by rw [hxw]; exact hfk))
        have hx1 : (k : Int) < (n : Int) := by omega
        have HIT := Lib.hid hit
        clear hc hcell hx hit hLne hapb hb hfk hxw hil
        go_wp2_with (go_at_fn gm; refine HMK.out.mono ?_; rintro e w1 ⟨rfl, rfl⟩)
        refine (layUse_is HXI.out HLAY.out).mono ?_
        rintro e w2 ⟨rfl, h2⟩
        obtain ⟨E2, row2, sz2⟩ := HE.out.laid (isFUse_length HXI.out) h2
        obtain ⟨y0, y1, y2, hout⟩ : ∃ y0 y1 y2, stO S (fldUse z0 z1 z2) = fldUse y0 y1 y2 := ⟨_, _, _, rfl⟩
        rw [hout] at row2 HS
        have e0 : w2.cell? ⟨wr.heap.size, 0, none⟩ = some (.int .i64 y0) := (cell_of_row row2 0).trans rfl
        have e1 : w2.cell? ⟨wr.heap.size, 1, none⟩ = some (.int .i64 y1) := (cell_of_row row2 1).trans rfl
        have e2 : w2.cell? ⟨wr.heap.size, 2, none⟩ = some (.int .u32 y2) := (cell_of_row row2 2).trans rfl
        have HE2 := Lib.hid (E2.alloc (.cells #[.int .i64 y0, .int .i64 y1, .int .u32 y2] 123))
        have n3 : (w2.alloc (.cells #[.int .i64 y0, .int .i64 y1, .int .u32 y2] 123)).heap[w2.heap.size]? = some (.cells (cellsF (fldUse y0 y1 y2)) 123 (0, 0)) := heap_alloc_new w2 _
        have HN3 := Lib.hid n3
        have HSZ : Hid (w0.heap.size ≤ w2.heap.size) := Lib.hid E2.went.size
        have HDL2 : Hid ((Dn.map rowV).length = k) := by show _ = _; rw [List.length_map]; exact HDL.out
        clear h2 E2 hout row2 sz2 n3
        go_wp2_with (at_builtin; refine wpList_append_row_at rfl _ _ _ rfl w0.heap.size 123 _ 3 24 Try.underlying63 infoUse rfl (by decide) _ (Dn.map rowV) rfl HE2.out.own w2.heap.size 1 (rowV (fldUse y0 y1 y2)) rfl rfl (fun j u hj => ((cell_of_row HN3.out j).trans (cellsF_row _ j)).trans hj) (fun u hu => by simp only [fldUse, rowV, List.map_cons, List.map_nil, List.mem_cons, List.not_mem_nil, or_false] at hu; rcases hu with rfl | rfl | rfl <;> rfl) (by rw [HDL2.out]; omega) (by rw [HDL2.out]; unfold maxLen; omega) (by simp; have := HSZ.out; omega) ?_; intro v4 w4 o4 g4 l4; have E4 := Lib.hid (HE2.out.next o4 g4 l4); clear o4 g4 l4)
        go_roundw
        case rel =>
          refine ⟨k + 1, by omega, by go_num, ?_⟩
          show EachAt _ _ _ _ _ _ _ _ _
          rw [HS.out.1, HS.out.2]
          exact E4.out
        case measure => simp [intOf]; omega
      · have hit : itemAt zeroUse L k = zeroUse := itemAt_out (by rw [HN.out]; omega)
        rw [hit] at HS
        have HXI := Lib.hid zeroUse_is
        have HLAY : Hid (LayAt zeroUse wr.heap.size 123 (wr.alloc (.cells #[.int .i64 0, .int .i64 0, .int .u32 0] 123)) pv S 0 (wr.alloc (.cells #[.int .i64 0, .int .i64 0, .int .u32 0] 123))) := Lib.hid (HE.out.lay zeroUse (by rw [isFUse_widths zeroUse_is]; exact hfk))
        have hx1 : ¬ (k : Int) < (n : Int) := by omega
        clear hit hfk hil
        go_wp2_with (go_at_fn gm; refine HMK.out.mono ?_; rintro e w1 ⟨rfl, rfl⟩)
        refine (layUse_is HXI.out HLAY.out).mono ?_
        rintro e w2 ⟨rfl, h2⟩
        obtain ⟨E2, row2, sz2⟩ := HE.out.laid (isFUse_length HXI.out) h2
        obtain ⟨y0, y1, y2, hout⟩ : ∃ y0 y1 y2, stO S zeroUse = fldUse y0 y1 y2 := ⟨_, _, _, rfl⟩
        rw [hout] at row2 HS
        have e0 : w2.cell? ⟨wr.heap.size, 0, none⟩ = some (.int .i64 y0) := (cell_of_row row2 0).trans rfl
        have e1 : w2.cell? ⟨wr.heap.size, 1, none⟩ = some (.int .i64 y1) := (cell_of_row row2 1).trans rfl
        have e2 : w2.cell? ⟨wr.heap.size, 2, none⟩ = some (.int .u32 y2) := (cell_of_row row2 2).trans rfl
        have HE2 := Lib.hid (E2.alloc (.cells #[.int .i64 y0, .int .i64 y1, .int .u32 y2] 123))
        have n3 : (w2.alloc (.cells #[.int .i64 y0, .int .i64 y1, .int .u32 y2] 123)).heap[w2.heap.size]? = some (.cells (cellsF (fldUse y0 y1 y2)) 123 (0, 0)) := heap_alloc_new w2 _
        have HN3 := Lib.hid n3
        have HSZ : Hid (w0.heap.size ≤ w2.heap.size) := Lib.hid E2.went.size
        have HDL2 : Hid ((Dn.map rowV).length = k) := by show _ = _; rw [List.length_map]; exact HDL.out
        clear h2 E2 hout row2 sz2 n3
        go_wp2_with (at_builtin; refine wpList_append_row_at rfl _ _ _ rfl w0.heap.size 123 _ 3 24 Try.underlying63 infoUse rfl (by decide) _ (Dn.map rowV) rfl HE2.out.own w2.heap.size 1 (rowV (fldUse y0 y1 y2)) rfl rfl (fun j u hj => ((cell_of_row HN3.out j).trans (cellsF_row _ j)).trans hj) (fun u hu => by simp only [fldUse, rowV, List.map_cons, List.map_nil, List.mem_cons, List.not_mem_nil, or_false] at hu; rcases hu with rfl | rfl | rfl <;> rfl) (by rw [HDL2.out]; omega) (by rw [HDL2.out]; unfold maxLen; omega) (by simp; have := HSZ.out; omega) ?_; intro v4 w4 o4 g4 l4; have E4 := Lib.hid (HE2.out.next o4 g4 l4); clear o4 g4 l4)
        go_roundw
        case rel =>
          refine ⟨k + 1, by omega, by go_num, ?_⟩
          show EachAt _ _ _ _ _ _ _ _ _
          rw [HS.out.1, HS.out.2]
          exact E4.out
        case measure => simp [intOf]; omega
    · have hd : decide (k < K) = false := decide_eq_false hlt
      rw [hd] at hm
      obtain rfl : k = K := by omega
      have HMK := Lib.hid hm
      clear hm hd
      go_wp2_with (go_at_fn gm; refine HMK.out.mono ?_; rintro e w1 ⟨rfl, rfl⟩)
      go_ret
      exact ⟨_, rfl, HE.out⟩
end Go.Proofs.Ytgakidimipipeaa

namespace Go.Proofs.Ytgakidimipipeaa
open Go.RowKit Go.Sort
set_option linter.unusedVariables false
set_option linter.unusedSimpArgs false
set_option maxRecDepth 100000

theorem enters_moreUse (args : Array Value) (w : World) : (callFunc 111 args).run Try.prog w = .ok (.enter 111 args) w := enters_of Try.func111 (by kernel_rfl) rfl args w
theorem moreUse_is {w : World} {pv : Value} {S : PS} (h : IsPort w pv S) {gl gx gp n cap : Nat} {a : Option Addr} (cl : w.cell? ⟨gl, 0, none⟩ = some (.pointer (some ⟨gx, 0, none⟩))) (cx : w.cell? ⟨gx, 0, none⟩ = some (.slice a n cap)) (cp : w.cell? ⟨gp, 0, none⟩ = some pv) (i : Nat) :
    Calls Try.prog 111 #[.int .i64 (i : Int), .pointer (some ⟨gl, 0, none⟩), .pointer (some ⟨gp, 0, none⟩)] w fun e w' => e = .returned (.bool (decide (i < n ∨ 0 < leftS S))) ∧ w = w' := by
  by_cases hi : i < n
  · have h1 : (i : Int) < (n : Int) := by omega
    have hd : decide (i < n ∨ 0 < leftS S) = true := decide_eq_true (.inl hi)
    rw [hd]
    clear h hd hi
    go_enter Try.func111, Try.ntmps111
    go_wp2
    go_ret
    exact ⟨rfl, rfl⟩
  · have h1 : decide (i < n) = false := decide_eq_false hi
    have hd : decide (i < n ∨ 0 < leftS S) = decide (0 < leftS S) := by simp [hi]
    rw [hd]
    have HL := Lib.hid (left_is h)
    cases S with
    | wr l f =>
      obtain ⟨g, v, rfl, hw⟩ := h
      have hna := fun n hn w => naL_wr n g w hn
      have hmt := fun n hn w => mtL_wr n g w hn
      clear hd hi hw
      go_enter Try.func111, Try.ntmps111
      go_wp2_with (go_at_call 160; refine HL.out.mono ?_; rintro e w1 ⟨rfl, rfl⟩)
      go_ret
      exact ⟨rfl, rfl⟩
    | rd b =>
      obtain ⟨g, a2, cap2, rfl, hw⟩ := h
      have hna := fun n hn w => naL_rd n g w hn
      have hmt := fun n hn w => mtL_rd n g w hn
      obtain ⟨m, hm⟩ : ∃ m, leftS (.rd b) = m := ⟨_, rfl⟩
      rw [hm] at HL ⊢
      clear hd hi hw hm
      go_enter Try.func111, Try.ntmps111
      go_wp2_with (go_at_call 162; refine HL.out.mono ?_; rintro e w1 ⟨rfl, rfl⟩)
      go_ret
      exact ⟨rfl, rfl⟩
end Go.Proofs.Ytgakidimipipeaa

namespace Go.Proofs.Ytgakidimipipeaa
open Go.RowKit Go.Sort
set_option linter.unusedVariables false
set_option linter.unusedSimpArgs false
set_option maxRecDepth 100000

set_option maxHeartbeats 3200000 in
theorem restUse_is {w : World} {pv : Value} {S : PS} (hport : IsPort w pv S) (L : List (List FldD)) (hL : ∀ x ∈ L, IsFUse x) (a : Option Addr) (cap gx gb : Nat) (lt tb : TypeId) (hlt : lt ≠ 123) (nx : w.heap[gx]? = some (.cells #[.slice a L.length cap] lt (0, 0))) (hax : Away w pv S gx)
    (nb : w.heap[gb]? = some (.cells #[.func (.func 72) #[] #[]] tb (0, 0))) (hab : Apart w pv S gb) (hxb : gx ≠ gb)
    (hr : ReadsR w a 3 (L.map rowV)) (hap : L ≠ [] → ∀ b off, a = some ⟨b, off, none⟩ → b < w.heap.size ∧ Apart w pv S b)
    (K : Nat) (hK : K ≤ 2000) (hLl : L.length ≤ 2000) (hfit : ∀ i, i < K → (runS zeroUse L S i).fits 7) (hM : ∀ i, i ≤ K → decide (i < L.length ∨ 0 < leftS (runS zeroUse L S i)) = decide (i < K)) :
    Calls Try.prog 109 #[pv, .pointer (some ⟨gx, 0, none⟩), .pointer (some ⟨gb, 0, none⟩)] w (RestPost 123 lt 3 w pv S (runS zeroUse L S K) gx (runD zeroUse L S K)) := by
  obtain ⟨ti, vi, rfl⟩ := port_iface hport
  have q1 := below_box w (.cells #[(.iface ti vi)] 179)
  have m1 := heap_alloc_new w (.cells #[(.iface ti vi)] 179)
  obtain ⟨w1, hw1⟩ : ∃ x, w.alloc (.cells #[(.iface ti vi)] 179) = x := ⟨_, rfl⟩
  have hs1 : w1.heap.size = w.heap.size + 1 := by rw [← hw1]; simp
  rw [hw1] at q1 m1
  have q2 := below_box w1 (.cells #[.pointer (some ⟨gx, 0, none⟩)] 180)
  have m2 := heap_alloc_new w1 (.cells #[.pointer (some ⟨gx, 0, none⟩)] 180)
  obtain ⟨w2, hw2⟩ : ∃ x, w1.alloc (.cells #[.pointer (some ⟨gx, 0, none⟩)] 180) = x := ⟨_, rfl⟩
  have hs2 : w2.heap.size = w.heap.size + 2 := by rw [← hw2]; simp [hs1]
  rw [hw2, hs1] at q2 m2
  obtain ⟨w3, hw3⟩ : ∃ x, w2.drew = x := ⟨_, rfl⟩
  have hs3 : w3.heap.size = w.heap.size + 2 := by rw [← hw3]; exact hs2
  have q3 : Below (w.heap.size + 1) w1 w3 := by rw [← hw3]; exact q2.drew
  have m3 : w3.heap[w.heap.size + 1]? = some (.cells #[.pointer (some ⟨gx, 0, none⟩)] 180 (0, 0)) := by rw [← hw3]; exact m2
  have hq := below_next q1 (hs1 ▸ q3)
  have hgx : gx < w.heap.size := (Array.getElem?_eq_some_iff.1 nx).1
  have hgb : gb < w.heap.size := (Array.getElem?_eq_some_iff.1 nb).1
  have m12 := (q3.block w.heap.size (by omega)).trans m1
  have nx2 := (hq.block gx hgx).trans nx
  have nb2 := (hq.block gb hgb).trans nb
  obtain ⟨p1, p2, p3⟩ := port_kept hport (below_grown0 hq) (fun k hk => by cases hk)
  have hax2 := (p2 gx).1 hax
  have hab2 := (p3 gb).1 hab
  have hr2 := hr.below hq
  have hap2 : L ≠ [] → ∀ b off, a = some ⟨b, off, none⟩ → b < w3.heap.size ∧ Apart w3 (.iface ti vi) S b := fun h b off e => ⟨by have := (hap h b off e).1; omega, (p3 b).1 (hap h b off e).2⟩
  have aP : Apart w3 (.iface ti vi) S w.heap.size := (p3 _).1 (away_ne hport (Nat.le_refl _))
  have aL : Apart w3 (.iface ti vi) S (w.heap.size + 1) := (p3 _).1 (away_ne hport (by omega))
  have keep : ∀ (W : World) (v : Value) (S' : PS) (dn : List (List FldD)), EachAt 123 3 w3 (.iface ti vi) S W S' v dn → W.heap[gx]? = some (.cells #[.slice a L.length cap] lt (0, 0)) ∧ W.heap[gb]? = some (.cells #[.func (.func 72) #[] #[]] tb (0, 0)) ∧ W.heap[w.heap.size]? = some (.cells #[(.iface ti vi)] 179 (0, 0)) ∧ W.heap[w.heap.size + 1]? = some (.cells #[.pointer (some ⟨gx, 0, none⟩)] 180 (0, 0)) := fun W v S' dn h =>
    ⟨(h.went.block gx (by omega) hax2.apart (by omega)).trans nx2, (h.went.block gb (by omega) hab2 (by omega)).trans nb2, (h.went.block w.heap.size (by omega) aP (by omega)).trans m12, (h.went.block (w.heap.size + 1) (by omega) aL (by omega)).trans m3⟩
  have hmore : ∀ (i : Nat) (W : World) (v : Value), i ≤ K → EachAt 123 3 w3 (.iface ti vi) S W (runS zeroUse L S i) v (runD zeroUse L S i) → Calls Try.prog 111 (#[.int .i64 (i : Int)] ++ #[.pointer (some ⟨w.heap.size + 1, 0, none⟩), .pointer (some ⟨w.heap.size, 0, none⟩)]) W fun e w' => e = .returned (.bool (decide (i < K))) ∧ W = w' := fun i W v hi h => by
    obtain ⟨k1, k2, k3, k4⟩ := keep W v _ _ h
    have := moreUse_is (n := L.length) (cap := cap) (a := a) h.went.port ((cell_of_row k4 0).trans rfl) ((cell_of_row k1 0).trans rfl) ((cell_of_row k3 0).trans rfl) i
    rw [hM i hi] at this
    exact this
  have HCALL := Lib.hid (eachUse_is L hL a cap hr2 hap2 p1 K hK hLl hfit 111 _ enters_moreUse hmore)
  have HKEEP := Lib.hid keep
  have HFIN := Lib.hid (fun (W : World) (v : Value) (S' : PS) (dn : List (List FldD)) (h : EachAt 123 3 w3 (.iface ti vi) S W S' v dn) => (show RestPost 123 lt 3 w (.iface ti vi) S S' gx dn (.returned (.tuple #[])) (W.setCell ⟨gx, 0, none⟩ v) from rest_fin hport hq hlt hgx hax nx h))
  have c0 : w3.cell? ⟨w.heap.size + 1, 0, none⟩ = some (.pointer (some ⟨gx, 0, none⟩)) := (cell_of_row m3 0).trans rfl
  have c1 : w3.cell? ⟨w.heap.size, 0, none⟩ = some (.iface ti vi) := (cell_of_row m12 0).trans rfl
  have c2 : w3.cell? ⟨gx, 0, none⟩ = some (.slice a L.length cap) := (cell_of_row nx2 0).trans rfl
  have c3 : w3.cell? ⟨gb, 0, none⟩ = some (.func (.func 72) #[] #[]) := (cell_of_row nb2 0).trans rfl
  clear q1 m1 q2 m2 q3 m3 hq m12 nx2 nb2 p1 p2 p3 hax2 hab2 hr2 hap2 aP aL keep hmore nx nb hr hap hax hab hport hL hfit hM hs2 hs3
  go_enter Try.func109, Try.ntmps109
  go_wp2_with fail
  subst hw3
  refine wp_region_held_drew (S := fun W => W.cell? ⟨w.heap.size + 1, 0, none⟩ = some (.pointer (some ⟨gx, 0, none⟩)) ∧ W.cell? ⟨w.heap.size, 0, none⟩ = some (.iface ti vi) ∧ W.cell? ⟨gb, 0, none⟩ = some (.func (.func 72) #[] #[])) (by kernel_rfl) ⟨c0, c1, c3⟩ (fun hHeld => ?_)
  refine wpAnyH_take (i := 0) (v := .pointer (some ⟨gx, 0, none⟩)) rfl (by kernel_rfl) (by kernel_rfl) (by kernel_rfl) (fun _ _ _ h => h) (Or.inl ⟨by rfl, by intro W hSw; (try dsimp only at hSw); go_simp⟩) (by assumption) ?_
  try simp only [Act.put, List.setIfInBounds_toArray, List.set_cons_zero, List.set_cons_succ]
  refine wpAnyH_take (i := 1) (v := .iface ti vi) rfl (by kernel_rfl) (by kernel_rfl) (by kernel_rfl) (fun _ _ _ h => h) (Or.inl ⟨by rfl, by intro W hSw; (try dsimp only at hSw); go_simp⟩) (by assumption) ?_
  try simp only [Act.put, List.setIfInBounds_toArray, List.set_cons_zero, List.set_cons_succ]
  refine wpAnyH_take (i := 2) (v := .pointer (some ⟨gx, 0, none⟩)) rfl (by kernel_rfl) (by kernel_rfl) (by kernel_rfl) (fun _ _ _ h => h) (Or.inl ⟨by rfl, by intro W hSw; (try dsimp only at hSw); go_simp⟩) (by assumption) ?_
  try simp only [Act.put, List.setIfInBounds_toArray, List.set_cons_zero, List.set_cons_succ]
  refine wpAnyH_take (i := 3) (v := .pointer (some ⟨gx, 0, none⟩)) rfl (by kernel_rfl) (by kernel_rfl) (by kernel_rfl) (fun _ _ _ h => h) (Or.inl ⟨by rfl, by intro W hSw; (try dsimp only at hSw); go_simp⟩) (by assumption) ?_
  try simp only [Act.put, List.setIfInBounds_toArray, List.set_cons_zero, List.set_cons_succ]
  refine wpAnyH_take (i := 5) (v := .func (.func 111) #[] #[.pointer (some ⟨w.heap.size + 1, 0, none⟩), .pointer (some ⟨w.heap.size, 0, none⟩)]) rfl (by kernel_rfl) (by kernel_rfl) (by kernel_rfl) (fun _ _ _ h => h) (Or.inl ⟨by rfl, by intro W hSw; (try dsimp only at hSw); go_simp⟩) (by assumption) ?_
  try simp only [Act.put, List.setIfInBounds_toArray, List.set_cons_zero, List.set_cons_succ]
  refine wpAnyH_take (i := 6) (v := .func (.func 72) #[] #[]) rfl (by kernel_rfl) (by kernel_rfl) (by kernel_rfl) (fun _ _ _ h => h) (Or.inl ⟨by rfl, by intro W hSw; (try dsimp only at hSw); go_simp⟩) (by assumption) ?_
  try simp only [Act.put, List.setIfInBounds_toArray, List.set_cons_zero, List.set_cons_succ]
  refine wpAnyH_ready (rs := [4]) (by kernel_rfl) (by simp) ?_
  refine AllReadyH.cons rfl (fun K' hK' => ?_) AllReadyH.nil
  go_simp
  refine hK'.out _ _ hHeld (fun hHeld => ?_)
  clear hK' K'
  try simp only [Act.put, List.setIfInBounds_toArray, List.set_cons_zero, List.set_cons_succ]
  refine wpAnyH_ready (rs := [7]) (by kernel_rfl) (by simp) ?_
  refine AllReadyH.cons rfl (fun K' hK' => ?_) AllReadyH.nil
  go_simp
  refine HCALL.out.mono ?_
  rintro e w5 ⟨v5, rfl, h5⟩
  obtain ⟨a5, n5, q5, rfl⟩ := each_shape h5
  obtain ⟨k1, k2, k3, k4⟩ := HKEEP.out w5 _ _ _ h5
  have c5 : w5.cell? ⟨gx, 0, none⟩ = some (.slice a L.length cap) := (cell_of_row k1 0).trans rfl
  have f5 := frozen_of_row w5 gx 0 _ _ k1
  have SA : w5.cell? ⟨w.heap.size + 1, 0, none⟩ = some (.pointer (some ⟨gx, 0, none⟩)) ∧ w5.cell? ⟨w.heap.size, 0, none⟩ = some (.iface ti vi) ∧ w5.cell? ⟨gb, 0, none⟩ = some (.func (.func 72) #[] #[]) := ⟨(cell_of_row k4 0).trans rfl, (cell_of_row k3 0).trans rfl, (cell_of_row k2 0).trans rfl⟩
  have SB : (w5.setCell ⟨gx, 0, none⟩ (.slice a5 n5 q5)).cell? ⟨w.heap.size + 1, 0, none⟩ = some (.pointer (some ⟨gx, 0, none⟩)) ∧ (w5.setCell ⟨gx, 0, none⟩ (.slice a5 n5 q5)).cell? ⟨w.heap.size, 0, none⟩ = some (.iface ti vi) ∧ (w5.setCell ⟨gx, 0, none⟩ (.slice a5 n5 q5)).cell? ⟨gb, 0, none⟩ = some (.func (.func 72) #[] #[]) := ⟨(World.cell?_of_block (a := ⟨w.heap.size + 1, 0, none⟩) (Below.heap_setCell _ _ _ _ (by show w.heap.size + 1 ≠ gx; omega))).trans SA.1, (World.cell?_of_block (a := ⟨w.heap.size, 0, none⟩) (Below.heap_setCell _ _ _ _ (by show w.heap.size ≠ gx; omega))).trans SA.2.1, (World.cell?_of_block (a := ⟨gb, 0, none⟩) (Below.heap_setCell _ _ _ _ (Ne.symm hxb))).trans SA.2.2⟩
  have HFF := HFIN.out _ _ _ _ h5
  clear h5 k1 k2 k3 k4 hHeld
  refine hK'.out _ _ SA (fun hHeld => ?_)
  clear hK' K'
  try simp only [Act.put, List.setIfInBounds_toArray, List.set_cons_zero, List.set_cons_succ]
  refine wpAnyH_take (i := 8) (v := .pointer (some ⟨gx, 0, none⟩)) rfl (by kernel_rfl) (by kernel_rfl) (by kernel_rfl) (fun _ _ _ h => h) (Or.inl ⟨by rfl, by intro W hSw; (try dsimp only at hSw); go_simp⟩) (by assumption) ?_
  try simp only [Act.put, List.setIfInBounds_toArray, List.set_cons_zero, List.set_cons_succ]
  refine wpAnyH_ready (rs := [9]) (by kernel_rfl) (by simp) ?_
  refine AllReadyH.cons rfl (fun K' hK' => ?_) AllReadyH.nil
  go_simp
  refine hK'.out _ _ SB (fun hHeld => ?_)
  clear hK' K'
  refine wpAnyH_done (by kernel_rfl) ?_ _
  go_end0
  exact HFF
end Go.Proofs.Ytgakidimipipeaa
