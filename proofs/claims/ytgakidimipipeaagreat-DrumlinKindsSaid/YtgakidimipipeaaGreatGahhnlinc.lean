/- The laying of one Entry through a port, and of many, one behind the other (part.Each). part.Flag: a truth as a number of one byte, laid through a port. The laying of a Summary: its fields, the count, and its entries. The laying of a Summary: the walk. A Summary written to bytes (part.Write). -/
import Derived.Test.YtgakidimipipeaaGreatGcgabeaeg
import Derived.Shelf.Abstract
import Derived.Deep.RegionHeld3
import Derived.Test.YtgakidimipipeaaGreatGkcidpoml
namespace Go.Proofs.YtgakidimipipeaaGreat
open Go.RowKit Go.Sort
set_option linter.unusedVariables false
set_option linter.unusedSimpArgs false
set_option maxRecDepth 100000

def fldEntry (z0 z1 z2 z3 : Int) : List FldD := [⟨.i64, 1, z0⟩, ⟨.u32, 2, z1⟩, ⟨.u32, 4, z2⟩, ⟨.i64, 2, z3⟩]
def IsFEntry (l : List FldD) : Prop := ∃ z0 z1 z2 z3 : Int, l = fldEntry z0 z1 z2 z3 ∧ I64 z0 ∧ (0 ≤ z1 ∧ z1 < 4294967296) ∧ (0 ≤ z2 ∧ z2 < 4294967296) ∧ I64 z3
def zeroEntry : List FldD := fldEntry 0 0 0 0
theorem zeroEntry_is : IsFEntry zeroEntry := ⟨0, 0, 0, 0, rfl, by unfold I64; omega, by omega, by omega, by unfold I64; omega⟩
theorem isFEntry_length {l : List FldD} (h : IsFEntry l) : l.length = 4 := by obtain ⟨z0, z1, z2, z3, rfl, _⟩ := h; rfl
theorem isFEntry_widths {l : List FldD} (h : IsFEntry l) : widths l = 9 := by obtain ⟨z0, z1, z2, z3, rfl, _⟩ := h; rfl
set_option maxHeartbeats 1600000 in
theorem layEntry_is {l : List FldD} {gx : Nat} {w0 w : World} {pv : Value} {S : PS} (hl : IsFEntry l) (h : LayAt l gx 92 w0 pv S 0 w) :
    Calls Tryz.prog 75 #[pv, .pointer (some ⟨gx, 0, none⟩)] w fun e w' => e = .returned (.tuple #[]) ∧ LayAt l gx 92 w0 pv S 4 w' := by
  obtain ⟨z0, z1, z2, z3, rfl, k0, k1, k2, k3⟩ := hl
  have H := Lib.hid h
  clear h
  go_enter Tryz.func75, Tryz.ntmps75
  go_wp2_with fail
  refine (lay_i64 (q := 1) H.out rfl k0 (by decide) (by decide)).mono ?_
  rintro e w1 ⟨rfl, h1⟩
  have H1 := Lib.hid h1
  clear h1 H
  go_wp2_with fail
  refine (lay_u32 (q := 2) H1.out rfl k1 (by decide) (by decide)).mono ?_
  rintro e w2 ⟨rfl, h2⟩
  have H2 := Lib.hid h2
  clear h2 H1
  go_wp2_with fail
  refine (lay_u32 (q := 4) H2.out rfl k2 (by decide) (by decide)).mono ?_
  rintro e w3 ⟨rfl, h3⟩
  have H3 := Lib.hid h3
  clear h3 H2
  go_wp2_with fail
  refine (lay_i64 (q := 2) H3.out rfl k3 (by decide) (by decide)).mono ?_
  rintro e w4 ⟨rfl, h4⟩
  have H4 := Lib.hid h4
  clear h4 H3
  go_wp2
  go_end0
  exact ⟨rfl, H4.out⟩
theorem infoEntry : (Tryz.prog.info? 92).map (fun i => (i.zero, i.size, i.bytes)) = some (some (.agg #[.int .i64 0, .int .u32 0, .int .u32 0, .int .i64 0]), 4, 24) := by kernel_rfl
set_option maxHeartbeats 1600000 in
theorem eachEntry_is {w0 : World} {pv : Value} {S0 : PS} (L : List (List FldD)) (hL : ∀ x ∈ L, IsFEntry x) (a : Option Addr) (cap : Nat) (hr : ReadsR w0 a 4 (L.map rowV)) (hap : L ≠ [] → ∀ b off, a = some ⟨b, off, none⟩ → b < w0.heap.size ∧ Apart w0 pv S0 b) (hport : IsPort w0 pv S0)
    (K : Nat) (hK : K ≤ 2000) (hLl : L.length ≤ 2000) (hfit : ∀ i, i < K → (runS zeroEntry L S0 i).fits 9) (gm : Nat) (caps : Array Value) (eg : ∀ args w, (callFunc gm args).run Tryz.prog w = .ok (.enter gm args) w)
    (hmore : ∀ (i : Nat) (W : World) (v : Value), i ≤ K → EachAt 92 4 w0 pv S0 W (runS zeroEntry L S0 i) v (runD zeroEntry L S0 i) → Calls Tryz.prog gm (#[.int .i64 (i : Int)] ++ caps) W fun e w' => e = .returned (.bool (decide (i < K))) ∧ W = w') :
    Calls Tryz.prog 73 #[pv, .slice a L.length cap, .func (.func gm) #[] caps, .func (.func 75) #[] #[]] w0 fun e w' => ∃ v, e = .returned v ∧ EachAt 92 4 w0 pv S0 w' (runS zeroEntry L S0 K) v (runD zeroEntry L S0 K) := by
  obtain ⟨n, hn⟩ : ∃ n, L.length = n := ⟨_, rfl⟩
  have HN := Lib.hid hn
  have HST := Lib.hid (each_start 92 4 hport)
  have HL := Lib.hid hL
  have HR := Lib.hid hr
  have HAP := Lib.hid hap
  have HF := Lib.hid hfit
  have HM := Lib.hid hmore
  rw [hn] at hLl ⊢
  clear hn hL hr hap hfit hmore hport
  go_enter Tryz.func73, Tryz.ntmps73
  go_wp2_with fail
  go_loopw [9, 10] (fun v i wr => ∃ k : Nat, k ≤ K ∧ i = .int .i64 k ∧ Hid (EachAt 92 4 w0 pv S0 wr (runS zeroEntry L S0 k) v (runD zeroEntry L S0 k))) (fun _ i _ => K - (intOf i).toNat)
  case atStart => exact ⟨0, Nat.zero_le _, rfl, HST.out⟩
  case round =>
    rename_i v9 _ _
    obtain ⟨k, hk, rfl, HE⟩ := hrel
    have hm := HM.out k wr _ hk HE.out
    by_cases hlt : k < K
    · have hd : decide (k < K) = true := decide_eq_true hlt
      rw [hd] at hm
      have HMK := Lib.hid hm
      have hfk := HF.out k hlt
      obtain ⟨S, hS⟩ : ∃ S, runS zeroEntry L S0 k = S := ⟨_, rfl⟩
      obtain ⟨Dn, hD⟩ : ∃ Dn, runD zeroEntry L S0 k = Dn := ⟨_, rfl⟩
      have hDl : Dn.length = k := by rw [← hD]; exact runD_length _ _ _ _
      have HS : Hid (runS zeroEntry L S0 (k + 1) = stS S (itemAt zeroEntry L k) ∧ runD zeroEntry L S0 (k + 1) = Dn ++ [stO S (itemAt zeroEntry L k)]) := by show _ ∧ _; rw [← hS, ← hD]; exact ⟨rfl, rfl⟩
      rw [hS] at hfk
      rw [hS, hD] at HE
      have HDL := Lib.hid hDl
      clear hm hd hS hD hDl
      have hx0 : (0 : Int) ≤ (k : Int) := by omega
      by_cases hil : k < n
      · obtain ⟨x, hx⟩ : ∃ x, L[k]? = some x := ⟨_, List.getElem?_eq_getElem (by rw [HN.out]; exact hil)⟩
        have hit : itemAt zeroEntry L k = x := itemAt_in hx
        rw [hit] at HS
        have hLne : L ≠ [] := by rintro rfl; simp at hx
        have hxi := HL.out x (List.mem_of_getElem? hx)
        have hxw := isFEntry_widths hxi
        have HXI := Lib.hid hxi
        obtain ⟨z0, z1, z2, z3, rfl, k0, k1, k2, k3⟩ := hxi
        obtain ⟨b, off, rfl, hb, hc⟩ := HR.out.row (show (L.map rowV)[k]? = some (rowV (fldEntry z0 z1 z2 z3)) by rw [List.getElem?_map, hx]; rfl)
        obtain ⟨_, hapb⟩ := HAP.out hLne b off rfl
        have hcell : ∀ (i : Nat) (u : Value), (rowV (fldEntry z0 z1 z2 z3))[i]? = some u → (wr.alloc (.cells #[.int .i64 0, .int .u32 0, .int .u32 0, .int .i64 0] 92)).cell? ⟨b, off + k * 4 + i, none⟩ = some u := fun i u hi => by
          have h1 := hc i u hi
          rw [← Nat.add_assoc] at h1
          refine ((below_box wr (.cells #[.int .i64 0, .int .u32 0, .int .u32 0, .int .i64 0] 92)).cell (p := ⟨b, off + k * 4 + i, none⟩) (Nat.lt_of_lt_of_le hb HE.out.went.size)).trans ?_
          exact (World.cell?_of_block (a := ⟨b, off + k * 4 + i, none⟩) (HE.out.went.block b hb hapb (by omega))).trans h1
        have c0 : (wr.alloc (.cells #[.int .i64 0, .int .u32 0, .int .u32 0, .int .i64 0] 92)).cell? ⟨b, off + k * 4, none⟩ = some (.int .i64 z0) := hcell 0 _ rfl
        have c1 : (wr.alloc (.cells #[.int .i64 0, .int .u32 0, .int .u32 0, .int .i64 0] 92)).cell? ⟨b, off + k * 4 + 1, none⟩ = some (.int .u32 z1) := hcell 1 _ rfl
        have c2 : (wr.alloc (.cells #[.int .i64 0, .int .u32 0, .int .u32 0, .int .i64 0] 92)).cell? ⟨b, off + k * 4 + 2, none⟩ = some (.int .u32 z2) := hcell 2 _ rfl
        have c3 : (wr.alloc (.cells #[.int .i64 0, .int .u32 0, .int .u32 0, .int .i64 0] 92)).cell? ⟨b, off + k * 4 + 3, none⟩ = some (.int .i64 z3) := hcell 3 _ rfl
        have HLAY : Hid (LayAt (fldEntry z0 z1 z2 z3) wr.heap.size 92 (wr.alloc (.cells #[.int .i64 z0, .int .u32 z1, .int .u32 z2, .int .i64 z3] 92)) pv S 0 (wr.alloc (.cells #[.int .i64 z0, .int .u32 z1, .int .u32 z2, .int .i64 z3] 92))) := Lib.hid (HE.out.lay (fldEntry z0 z1 z2 z3) (by rw [hxw]; exact hfk))
        have hx1 : (k : Int) < (n : Int) := by omega
        have HIT := Lib.hid hit
        clear hc hcell hx hit hLne hapb hb hfk hxw hil
        go_wp2_with (go_at_fn gm; refine HMK.out.mono ?_; rintro e w1 ⟨rfl, rfl⟩)
        refine (layEntry_is HXI.out HLAY.out).mono ?_
        rintro e w2 ⟨rfl, h2⟩
        obtain ⟨E2, row2, sz2⟩ := HE.out.laid (isFEntry_length HXI.out) h2
        obtain ⟨y0, y1, y2, y3, hout⟩ : ∃ y0 y1 y2 y3, stO S (fldEntry z0 z1 z2 z3) = fldEntry y0 y1 y2 y3 := ⟨_, _, _, _, rfl⟩
        rw [hout] at row2 HS
        have e0 : w2.cell? ⟨wr.heap.size, 0, none⟩ = some (.int .i64 y0) := (cell_of_row row2 0).trans rfl
        have e1 : w2.cell? ⟨wr.heap.size, 1, none⟩ = some (.int .u32 y1) := (cell_of_row row2 1).trans rfl
        have e2 : w2.cell? ⟨wr.heap.size, 2, none⟩ = some (.int .u32 y2) := (cell_of_row row2 2).trans rfl
        have e3 : w2.cell? ⟨wr.heap.size, 3, none⟩ = some (.int .i64 y3) := (cell_of_row row2 3).trans rfl
        have HE2 := Lib.hid (E2.alloc (.cells #[.int .i64 y0, .int .u32 y1, .int .u32 y2, .int .i64 y3] 92))
        have n3 : (w2.alloc (.cells #[.int .i64 y0, .int .u32 y1, .int .u32 y2, .int .i64 y3] 92)).heap[w2.heap.size]? = some (.cells (cellsF (fldEntry y0 y1 y2 y3)) 92 (0, 0)) := heap_alloc_new w2 _
        have HN3 := Lib.hid n3
        have HSZ : Hid (w0.heap.size ≤ w2.heap.size) := Lib.hid E2.went.size
        have HDL2 : Hid ((Dn.map rowV).length = k) := by show _ = _; rw [List.length_map]; exact HDL.out
        clear h2 E2 hout row2 sz2 n3
        go_wp2_with (at_builtin; refine wpList_append_row_at rfl _ _ _ rfl w0.heap.size 92 _ 4 24 Tryz.underlying41 infoEntry rfl (by decide) _ (Dn.map rowV) rfl HE2.out.own w2.heap.size 1 (rowV (fldEntry y0 y1 y2 y3)) rfl rfl (fun j u hj => ((cell_of_row HN3.out j).trans (cellsF_row _ j)).trans hj) (fun u hu => by simp only [fldEntry, rowV, List.map_cons, List.map_nil, List.mem_cons, List.not_mem_nil, or_false] at hu; rcases hu with rfl | rfl | rfl | rfl <;> rfl) (by rw [HDL2.out]; omega) (by rw [HDL2.out]; unfold maxLen; omega) (by simp; have := HSZ.out; omega) ?_; intro v4 w4 o4 g4 l4; have E4 := Lib.hid (HE2.out.next o4 g4 l4); clear o4 g4 l4)
        go_roundw
        case rel =>
          refine ⟨k + 1, by omega, by go_num, ?_⟩
          show EachAt _ _ _ _ _ _ _ _ _
          rw [HS.out.1, HS.out.2]
          exact E4.out
        case measure => simp [intOf]; omega
      · have hit : itemAt zeroEntry L k = zeroEntry := itemAt_out (by rw [HN.out]; omega)
        rw [hit] at HS
        have HXI := Lib.hid zeroEntry_is
        have HLAY : Hid (LayAt zeroEntry wr.heap.size 92 (wr.alloc (.cells #[.int .i64 0, .int .u32 0, .int .u32 0, .int .i64 0] 92)) pv S 0 (wr.alloc (.cells #[.int .i64 0, .int .u32 0, .int .u32 0, .int .i64 0] 92))) := Lib.hid (HE.out.lay zeroEntry (by rw [isFEntry_widths zeroEntry_is]; exact hfk))
        have hx1 : ¬ (k : Int) < (n : Int) := by omega
        clear hit hfk hil
        go_wp2_with (go_at_fn gm; refine HMK.out.mono ?_; rintro e w1 ⟨rfl, rfl⟩)
        refine (layEntry_is HXI.out HLAY.out).mono ?_
        rintro e w2 ⟨rfl, h2⟩
        obtain ⟨E2, row2, sz2⟩ := HE.out.laid (isFEntry_length HXI.out) h2
        obtain ⟨y0, y1, y2, y3, hout⟩ : ∃ y0 y1 y2 y3, stO S zeroEntry = fldEntry y0 y1 y2 y3 := ⟨_, _, _, _, rfl⟩
        rw [hout] at row2 HS
        have e0 : w2.cell? ⟨wr.heap.size, 0, none⟩ = some (.int .i64 y0) := (cell_of_row row2 0).trans rfl
        have e1 : w2.cell? ⟨wr.heap.size, 1, none⟩ = some (.int .u32 y1) := (cell_of_row row2 1).trans rfl
        have e2 : w2.cell? ⟨wr.heap.size, 2, none⟩ = some (.int .u32 y2) := (cell_of_row row2 2).trans rfl
        have e3 : w2.cell? ⟨wr.heap.size, 3, none⟩ = some (.int .i64 y3) := (cell_of_row row2 3).trans rfl
        have HE2 := Lib.hid (E2.alloc (.cells #[.int .i64 y0, .int .u32 y1, .int .u32 y2, .int .i64 y3] 92))
        have n3 : (w2.alloc (.cells #[.int .i64 y0, .int .u32 y1, .int .u32 y2, .int .i64 y3] 92)).heap[w2.heap.size]? = some (.cells (cellsF (fldEntry y0 y1 y2 y3)) 92 (0, 0)) := heap_alloc_new w2 _
        have HN3 := Lib.hid n3
        have HSZ : Hid (w0.heap.size ≤ w2.heap.size) := Lib.hid E2.went.size
        have HDL2 : Hid ((Dn.map rowV).length = k) := by show _ = _; rw [List.length_map]; exact HDL.out
        clear h2 E2 hout row2 sz2 n3
        go_wp2_with (at_builtin; refine wpList_append_row_at rfl _ _ _ rfl w0.heap.size 92 _ 4 24 Tryz.underlying41 infoEntry rfl (by decide) _ (Dn.map rowV) rfl HE2.out.own w2.heap.size 1 (rowV (fldEntry y0 y1 y2 y3)) rfl rfl (fun j u hj => ((cell_of_row HN3.out j).trans (cellsF_row _ j)).trans hj) (fun u hu => by simp only [fldEntry, rowV, List.map_cons, List.map_nil, List.mem_cons, List.not_mem_nil, or_false] at hu; rcases hu with rfl | rfl | rfl | rfl <;> rfl) (by rw [HDL2.out]; omega) (by rw [HDL2.out]; unfold maxLen; omega) (by simp; have := HSZ.out; omega) ?_; intro v4 w4 o4 g4 l4; have E4 := Lib.hid (HE2.out.next o4 g4 l4); clear o4 g4 l4)
        go_roundw
        case rel =>
          refine ⟨k + 1, by omega, by go_num, ?_⟩
          show EachAt _ _ _ _ _ _ _ _ _
          rw [HS.out.1, HS.out.2]
          exact E4.out
        case measure => simp [intOf]; omega
    · have hd : decide (k < K) = false := decide_eq_false hlt
      rw [hd] at hm
      obtain rfl : k = K := by omega
      have HMK := Lib.hid hm
      clear hm hd
      go_wp2_with (go_at_fn gm; refine HMK.out.mono ?_; rintro e w1 ⟨rfl, rfl⟩)
      go_ret
      exact ⟨_, rfl, HE.out⟩
end Go.Proofs.YtgakidimipipeaaGreat

namespace Go.Proofs.YtgakidimipipeaaGreat
open Go.RowKit Go.Sort
set_option linter.unusedVariables false
set_option linter.unusedSimpArgs false
set_option maxRecDepth 100000

theorem passed_more {gx g : Nat} {w w1 w2 : World} {pv : Value} {S S1 S2 : PS} (h : Passed gx w pv S w1 S1) (k : Passed g w1 pv S1 w2 S2) (hg : w.heap.size ≤ g) : Passed gx w pv S w2 S2 :=
  ⟨k.os.trans h.os, k.tape.trans h.tape, k.output.trans h.output, Nat.le_trans h.size k.size,
    fun i hi ha hx => (k.block i (Nat.lt_of_lt_of_le hi h.size) (h.apart i hi ha) (by omega)).trans (h.block i hi ha hx), fun i hi ha => k.apart i (Nat.lt_of_lt_of_le hi h.size) (h.apart i hi ha), fun i hi ha => k.away i (Nat.lt_of_lt_of_le hi h.size) (h.away i hi ha), k.port⟩
theorem passed_grown {gx : Nat} {w w1 w2 : World} {pv : Value} {S S1 : PS} {row : Option Nat} (h : Passed gx w pv S w1 S1) (hg : w1.grownBy w2 row) (ha : ∀ k, row = some k → Away w1 pv S1 k) (hr : ∀ k, row = some k → k = gx ∨ w.heap.size ≤ k) : Passed gx w pv S w2 S1 := by
  obtain ⟨p1, p2, p3⟩ := port_kept h.port hg ha
  exact ⟨hg.os.trans h.os, hg.tape.trans h.tape, hg.output.trans h.output, Nat.le_trans h.size hg.size,
    fun i hi hap hx => (hg.block i (Nat.lt_of_lt_of_le hi h.size) (fun e => by rcases hr i e.symm with h | h <;> omega)).trans (h.block i hi hap hx),
    fun i hi hap => (p3 i).1 (h.apart i hi hap), fun i hi hap => (p2 i).1 (h.away i hi hap), p1⟩
theorem passed_none {gx : Nat} {w : World} {pv : Value} {S : PS} (h : IsPort w pv S) : Passed gx w pv S w S :=
  ⟨rfl, rfl, rfl, Nat.le_refl _, fun _ _ _ _ => rfl, fun _ _ h => h, fun _ _ h => h, h⟩
theorem grown_cell (w : World) (g i : Nat) (v : Value) : w.grownBy (w.setCell ⟨g, i, none⟩ v) (some g) := ⟨rfl, rfl, rfl, by simp [World.setCell], fun k hk hne => Below.heap_setCell _ _ _ _ (fun e => hne (by rw [e]))⟩

def flagN (b : Bool) : Int := if b then 1 else 0
/-- The truth that comes out. -/
def flagO (S : PS) (b : Bool) : Bool := (S.numI 1 (flagN b) != 0)
def FlagPost (gx i : Nat) (cs : Array Value) (t : TypeId) (w : World) (pv : Value) (S : PS) (b : Bool) (e : Ending) (w' : World) : Prop :=
  e = .returned (.tuple #[]) ∧ w'.heap[gx]? = some (.cells (cs.setIfInBounds i (.bool (flagO S b))) t (0, 0)) ∧ Passed gx w pv S w' (S.next 1 (u64of (flagN b)))
theorem flag_fin {gx i : Nat} {cs : Array Value} {t : TypeId} {w wn w5 : World} {pv : Value} {S : PS} {b : Bool} (hport : IsPort w pv S) (hx : w.heap[gx]? = some (.cells cs t (0, 0))) (hax : Away w pv S gx) (hq : Below w.heap.size w wn)
    (h : Passed w.heap.size wn pv S w5 (S.next 1 (u64of (flagN b)))) : w5.heap[gx]? = some (.cells cs t (0, 0)) ∧ FlagPost gx i cs t w pv S b (.returned (.tuple #[])) (w5.setCell ⟨gx, i, none⟩ (.bool (flagO S b))) := by
  have hgl : gx < w.heap.size := (Array.getElem?_eq_some_iff.1 hx).1
  obtain ⟨p1, p2, p3⟩ := port_kept hport (below_grown0 hq) (fun k hk => by cases hk)
  have hsz := hq.size
  have row : w5.heap[gx]? = some (.cells cs t (0, 0)) := (h.block gx (by omega) ((p2 gx).1 hax).apart (by omega)).trans ((hq.block gx hgl).trans hx)
  have ha5 : Away w5 pv (S.next 1 (u64of (flagN b))) gx := h.away gx (by omega) ((p2 gx).1 hax)
  refine ⟨row, rfl, heap_setCell_same w5 gx i _ _ _ row, ?_⟩
  have h1 : Passed gx w pv S wn S := passed_grown (passed_none hport) (below_grown0 hq) (fun k hk => by cases hk) (fun k hk => by cases hk)
  exact passed_grown (passed_more h1 h (Nat.le_refl _)) (grown_cell _ _ _ _) (fun k hk => by cases hk; exact ha5) (fun k hk => by cases hk; exact .inl rfl)

theorem below_cell {w w1 : World} (h : Below w.heap.size w w1) (i : Nat) (v : Value) : Below w.heap.size w (w1.setCell ⟨w.heap.size, i, none⟩ v) :=
  ⟨h.os, h.tape, h.output, by simpa using h.size, fun k hk => (Below.heap_setCell _ _ _ _ (by show k ≠ w.heap.size; omega)).trans (h.block k hk)⟩

set_option maxHeartbeats 1600000 in
theorem flag_is {gx i : Nat} {w : World} {pv : Value} {S : PS} {b : Bool} {cs : Array Value} {t : TypeId} (hport : IsPort w pv S) (hx : w.heap[gx]? = some (.cells cs t (0, 0))) (hax : Away w pv S gx) (hf : S.fits 1) (hc : cs[i]? = some (.bool b)) :
    Calls Tryz.prog 72 #[pv, .pointer (some ⟨gx, i, none⟩)] w (FlagPost gx i cs t w pv S b) := by
  have hgl : gx < w.heap.size := (Array.getElem?_eq_some_iff.1 hx).1
  have q1 := below_box w (.cells #[.int .i64 0] 3)
  have m1 := heap_alloc_new w (.cells #[.int .i64 0] 3)
  obtain ⟨w1, hw1⟩ : ∃ x, w.alloc (.cells #[.int .i64 0] 3) = x := ⟨_, rfl⟩
  rw [hw1] at q1 m1
  have q2 := below_cell q1 0 (.int .i64 0)
  have m2 : (w1.setCell ⟨w.heap.size, 0, none⟩ (.int .i64 0)).heap[w.heap.size]? = some (.cells #[.int .i64 0] 3 (0, 0)) := heap_setCell_same w1 w.heap.size 0 _ _ _ m1
  obtain ⟨w2, hw2⟩ : ∃ x, w1.setCell ⟨w.heap.size, 0, none⟩ (.int .i64 0) = x := ⟨_, rfl⟩
  rw [hw2] at q2 m2
  obtain ⟨ti, vi, rfl⟩ := port_iface hport
  have c0 : w1.cell? ⟨w.heap.size, 0, none⟩ = some (.int .i64 0) := cell_of_row m1 0
  have f0 := frozen_of_row w1 w.heap.size 0 _ _ m1
  have c2 : w2.cell? ⟨gx, i, none⟩ = some (.bool b) := (cell_of_row ((q2.block gx hgl).trans hx) i).trans hc
  cases b with
  | false =>
    obtain ⟨p1, p2, p3⟩ := port_kept hport (below_grown0 q2) (fun k hk => by cases hk)
    have HN := Lib.hid (pnum_i64 (off := 0) (z := 0) p1 m2 ((p2 _).1 (port_fresh hport (Nat.le_refl _))) 1 (by decide) (by decide) hf rfl (by unfold I64; omega))
    have HF := Lib.hid (fun (w5 : World) (h : Passed w.heap.size w2 (.iface ti vi) S w5 (S.next 1 (u64of 0))) => flag_fin (i := i) (b := false) hport hx hax q2 h)
    have HC := Lib.hid hc
    clear p1 p2 p3 hx hax hport q1 q2 m1 m2 hc hf hgl
    go_enter Tryz.func72, Tryz.ntmps72
    go_wp2_with fail
    refine HN.out.mono ?_
    rintro e w5 ⟨rfl, r5, h5⟩
    obtain ⟨row, fin⟩ := HF.out w5 h5
    have c5 : w5.cell? ⟨w.heap.size, 0, none⟩ = some (.int .i64 (S.numI 1 0)) := (cell_of_row r5 0).trans rfl
    have c6 : w5.cell? ⟨gx, i, none⟩ = some (.bool false) := (cell_of_row row i).trans HC.out
    have f5 := frozen_of_row w5 gx i _ _ row
    have F5 := Lib.hid fin
    clear r5 h5 row fin c0 f0 c2
    go_wp2_with fail
    go_end0
    exact F5.out
  | true =>
    have q3 := below_cell q2 0 (.int .i64 1)
    have m3 : (w2.setCell ⟨w.heap.size, 0, none⟩ (.int .i64 1)).heap[w.heap.size]? = some (.cells #[.int .i64 1] 3 (0, 0)) := heap_setCell_same w2 w.heap.size 0 _ _ _ m2
    obtain ⟨w3, hw3⟩ : ∃ x, w2.setCell ⟨w.heap.size, 0, none⟩ (.int .i64 1) = x := ⟨_, rfl⟩
    rw [hw3] at q3 m3
    have d2 : w2.cell? ⟨w.heap.size, 0, none⟩ = some (.int .i64 0) := cell_of_row m2 0
    have g2 := frozen_of_row w2 w.heap.size 0 _ _ m2
    obtain ⟨p1, p2, p3⟩ := port_kept hport (below_grown0 q3) (fun k hk => by cases hk)
    have HN := Lib.hid (pnum_i64 (off := 0) (z := 1) p1 m3 ((p2 _).1 (port_fresh hport (Nat.le_refl _))) 1 (by decide) (by decide) hf rfl (by unfold I64; omega))
    have HF := Lib.hid (fun (w5 : World) (h : Passed w.heap.size w3 (.iface ti vi) S w5 (S.next 1 (u64of 1))) => flag_fin (i := i) (b := true) hport hx hax q3 h)
    have HC := Lib.hid hc
    clear p1 p2 p3 hx hax hport q1 q2 m1 m2 hc hf hgl q3 m3
    go_enter Tryz.func72, Tryz.ntmps72
    go_wp2_with fail
    refine HN.out.mono ?_
    rintro e w5 ⟨rfl, r5, h5⟩
    obtain ⟨row, fin⟩ := HF.out w5 h5
    have c5 : w5.cell? ⟨w.heap.size, 0, none⟩ = some (.int .i64 (S.numI 1 1)) := (cell_of_row r5 0).trans rfl
    have c6 : w5.cell? ⟨gx, i, none⟩ = some (.bool true) := (cell_of_row row i).trans HC.out
    have f5 := frozen_of_row w5 gx i _ _ row
    have F5 := Lib.hid fin
    clear r5 h5 row fin c0 f0 c2 d2 g2
    go_wp2_with fail
    go_end0
    exact F5.out
end Go.Proofs.YtgakidimipipeaaGreat

namespace Go.Proofs.YtgakidimipipeaaGreat
open Go.RowKit Go.Sort
set_option linter.unusedVariables false
set_option linter.unusedSimpArgs false
set_option maxRecDepth 100000

theorem enters_moreSum (args : Array Value) (w : World) : (callFunc 74 args).run Tryz.prog w = .ok (.enter 74 args) w := enters_of Tryz.func74 (by kernel_rfl) rfl args w
theorem moreSum_is {w : World} {g K : Nat} (c : w.cell? ⟨g, 0, none⟩ = some (.int .i64 (K : Nat))) (i : Nat) :
    Calls Tryz.prog 74 #[.int .i64 (i : Int), .pointer (some ⟨g, 0, none⟩)] w fun e w' => e = .returned (.bool (decide (i < K))) ∧ w = w' := by
  go_enter Tryz.func74, Tryz.ntmps74
  go_wp2
  go_ret
  first
    | exact ⟨by simp, rfl⟩
    | exact ⟨rfl, rfl⟩

theorem readsR_passed {w w' : World} {gx N : Nat} {pv : Value} {S S' : PS} {a : Option Addr} {l : List (List Value)} (h : ReadsR w a N l) (k : Passed gx w pv S w' S') (hap : l ≠ [] → ∀ b off, a = some ⟨b, off, none⟩ → b < w.heap.size ∧ Apart w pv S b ∧ b ≠ gx) : ReadsR w' a N l := by
  obtain ⟨h1, h2 | ⟨g, off, e, hg, hc⟩⟩ := h
  · exact ⟨h1, .inl h2⟩
  · by_cases hl : l = []
    · exact ⟨h1, .inl hl⟩
    · obtain ⟨_, a2, a3⟩ := hap hl g off e
      exact ⟨h1, .inr ⟨g, off, e, Nat.lt_of_lt_of_le hg k.size, fun i u hi => (World.cell?_of_block (a := ⟨g, off + i, none⟩) (k.block g hg a2 a3)).trans (hc i u hi)⟩⟩

/-- Between two fields: the summary's cells, and the port where it is. -/
structure AtSum (gx : Nat) (w0 : World) (pv : Value) (S0 : PS) (cs : Array Value) (w : World) (S : PS) : Prop where
  row : w.heap[gx]? = some (.cells cs 43 (0, 0))
  passed : Passed gx w0 pv S0 w S
  size : gx < w0.heap.size
  away : Away w0 pv S0 gx
theorem AtSum.start {gx : Nat} {w : World} {pv : Value} {S : PS} {cs : Array Value} (hport : IsPort w pv S) (hx : w.heap[gx]? = some (.cells cs 43 (0, 0))) (hax : Away w pv S gx) : AtSum gx w pv S cs w S :=
  ⟨hx, passed_none hport, (Array.getElem?_eq_some_iff.1 hx).1, hax⟩
theorem AtSum.here {gx : Nat} {w0 w : World} {pv : Value} {S0 S : PS} {cs : Array Value} (h : AtSum gx w0 pv S0 cs w S) : Away w pv S gx := h.passed.away gx h.size h.away
theorem AtSum.u64 {gx m z q : Nat} {w0 w : World} {pv : Value} {S0 S : PS} {cs : Array Value} (h : AtSum gx w0 pv S0 cs w S) (hq : 1 ≤ q) (hq8 : q ≤ 8) (hf : S.fits q) (hc : cs[m]? = some (.int .u64 z)) (hz : z < 18446744073709551616) :
    Calls Tryz.prog 71 #[pv, .int .i64 q, .pointer (some ⟨gx, m, none⟩)] w fun e w' => e = .returned (.tuple #[]) ∧ AtSum gx w0 pv S0 (cs.setIfInBounds m (.int .u64 (S.num q z : Nat))) w' (S.next q z) :=
  (pnum_u64 h.passed.port h.row h.here q hq hq8 hf hc hz).mono fun e w' k => ⟨k.1, k.2.1, h.passed.trans k.2.2, h.size, h.away⟩
theorem AtSum.u32 {gx m z q : Nat} {w0 w : World} {pv : Value} {S0 S : PS} {cs : Array Value} (h : AtSum gx w0 pv S0 cs w S) (hq : 1 ≤ q) (hq8 : q ≤ 4) (hf : S.fits q) (hc : cs[m]? = some (.int .u32 z)) (hz : z < 4294967296) :
    Calls Tryz.prog 43 #[pv, .int .i64 q, .pointer (some ⟨gx, m, none⟩)] w fun e w' => e = .returned (.tuple #[]) ∧ AtSum gx w0 pv S0 (cs.setIfInBounds m (.int .u32 (S.num q z : Nat))) w' (S.next q z) ∧ Passed gx w pv S w' (S.next q z) :=
  (pnum_u32 h.passed.port h.row h.here q hq hq8 hf hc hz).mono fun e w' k => ⟨k.1, ⟨k.2.1, h.passed.trans k.2.2, h.size, h.away⟩, k.2.2⟩
theorem AtSum.i64 {gx m q : Nat} {z : Int} {w0 w : World} {pv : Value} {S0 S : PS} {cs : Array Value} (h : AtSum gx w0 pv S0 cs w S) (hq : 1 ≤ q) (hq8 : q ≤ 4) (hf : S.fits q) (hc : cs[m]? = some (.int .i64 z)) (hz : I64 z) :
    Calls Tryz.prog 44 #[pv, .int .i64 q, .pointer (some ⟨gx, m, none⟩)] w fun e w' => e = .returned (.tuple #[]) ∧ AtSum gx w0 pv S0 (cs.setIfInBounds m (.int .i64 (S.numI q z))) w' (S.next q (u64of z)) ∧ Passed gx w pv S w' (S.next q (u64of z)) :=
  (pnum_i64 h.passed.port h.row h.here q hq hq8 hf hc hz).mono fun e w' k => ⟨k.1, ⟨k.2.1, h.passed.trans k.2.2, h.size, h.away⟩, k.2.2⟩
theorem AtSum.flag {gx m : Nat} {b : Bool} {w0 w : World} {pv : Value} {S0 S : PS} {cs : Array Value} (h : AtSum gx w0 pv S0 cs w S) (hf : S.fits 1) (hc : cs[m]? = some (.bool b)) :
    Calls Tryz.prog 72 #[pv, .pointer (some ⟨gx, m, none⟩)] w fun e w' => e = .returned (.tuple #[]) ∧ AtSum gx w0 pv S0 (cs.setIfInBounds m (.bool (flagO S b))) w' (S.next 1 (u64of (flagN b))) :=
  (flag_is h.passed.port h.row h.here hf hc).mono fun e w' k => ⟨k.1, k.2.1, h.passed.trans k.2.2, h.size, h.away⟩
/-- The count, in a box of its own. -/
structure CountAt (gx : Nat) (w0 : World) (g : Nat) (z : Int) (w : World) (pv : Value) (S : PS) : Prop where
  row : w.heap[g]? = some (.cells #[.int .i64 z] 3 (0, 0))
  away : Away w pv S g
  new : w0.heap.size ≤ g
theorem CountAt.passed {gx g : Nat} {z : Int} {w0 w w' : World} {pv : Value} {S S' : PS} (h : CountAt gx w0 g z w pv S) (hx : gx < w0.heap.size) (k : Passed gx w pv S w' S') : CountAt gx w0 g z w' pv S' := by
  have hg : g < w.heap.size := (Array.getElem?_eq_some_iff.1 h.row).1
  have := h.new
  exact ⟨(k.block g hg h.away.apart (by omega)).trans h.row, k.away g hg h.away, h.new⟩
theorem AtSum.count {gx : Nat} {z : Int} {w0 w : World} {pv : Value} {S0 S : PS} {cs : Array Value} (h : AtSum gx w0 pv S0 cs w S) (hf : S.fits 1) (hz : I64 z) :
    Calls Tryz.prog 44 #[pv, .int .i64 1, .pointer (some ⟨w.heap.size, 0, none⟩)] (w.alloc (.cells #[.int .i64 z] 3)) fun e w' => e = .returned (.tuple #[]) ∧ AtSum gx w0 pv S0 cs w' (S.next 1 (u64of z)) ∧ CountAt gx w0 w.heap.size (S.numI 1 z) w' pv (S.next 1 (u64of z)) := by
  have q1 := below_box w (.cells #[.int .i64 z] 3)
  have m1 := heap_alloc_new w (.cells #[.int .i64 z] 3)
  obtain ⟨p1, p2, p3⟩ := port_kept h.passed.port (below_grown0 q1) (fun k hk => by cases hk)
  have hgw := Nat.lt_of_lt_of_le h.size h.passed.size
  refine (pnum_i64 (off := 0) p1 m1 ((p2 _).1 (port_fresh h.passed.port (Nat.le_refl _))) 1 (by decide) (by decide) hf rfl hz).mono ?_
  rintro e w' ⟨rfl, k1, k2⟩
  have hp : Passed gx w0 pv S0 (w.alloc (.cells #[.int .i64 z] 3)) S := passed_grown h.passed (below_grown0 q1) (fun k hk => by cases hk) (fun k hk => by cases hk)
  have hsz : (w.alloc (.cells #[.int .i64 z] 3)).heap.size = w.heap.size + 1 := by simp
  refine ⟨rfl, ⟨?_, passed_more hp k2 h.passed.size, h.size, h.away⟩, ⟨k1, k2.away _ (by omega) ((p2 _).1 (port_fresh h.passed.port (Nat.le_refl _))), h.passed.size⟩⟩
  exact (k2.block gx (by omega) ((p2 _).1 h.here).apart (by omega)).trans ((q1.block gx hgw).trans h.row)

def sumS (S : PS) (seq first : Nat) (commit : Bool) (n : Nat) (next : Int) (time : Nat) : PS := (((((S.next 8 seq).next 8 first).next 1 (u64of (flagN commit))).next 1 (u64of (n : Int))).next 2 (u64of next)).next 4 time
def sumC (S : PS) (seq first : Nat) (commit : Bool) (n : Nat) (next : Int) (time : Nat) (v : Value) : Array Value :=
  #[.int .u64 (S.num 8 seq : Nat), .int .u64 ((S.next 8 seq).num 8 first : Nat), .bool (flagO ((S.next 8 seq).next 8 first) commit),
    .int .i64 (((((S.next 8 seq).next 8 first).next 1 (u64of (flagN commit))).next 1 (u64of (n : Int))).numI 2 next),
    .int .u32 ((((((S.next 8 seq).next 8 first).next 1 (u64of (flagN commit))).next 1 (u64of (n : Int))).next 2 (u64of next)).num 4 time : Nat), v]
def SumPost (gx : Nat) (w : World) (pv : Value) (S : PS) (seq first : Nat) (commit : Bool) (next : Int) (time : Nat) (L : List (List FldD)) (K : Nat) (e : Ending) (w' : World) : Prop :=
  e = .returned (.tuple #[]) ∧ ∃ v, w'.heap[gx]? = some (.cells (sumC S seq first commit L.length next time v) 43 (0, 0)) ∧ OwnsR' w.heap.size w' 92 4 v ((runD zeroEntry L (sumS S seq first commit L.length next time) K).map rowV) ∧ Passed gx w pv S w' (runS zeroEntry L (sumS S seq first commit L.length next time) K)
end Go.Proofs.YtgakidimipipeaaGreat

namespace Go.Proofs.YtgakidimipipeaaGreat
open Go.RowKit Go.Sort
set_option linter.unusedVariables false
set_option linter.unusedSimpArgs false
set_option maxRecDepth 100000

theorem AtSum.fin {gx : Nat} {w0 w W : World} {pv v : Value} {S0 S S' : PS} {cs : Array Value} {dn : List (List FldD)} (h : AtSum gx w0 pv S0 cs w S) (k : EachAt 92 4 w pv S W S' v dn) :
    W.heap[gx]? = some (.cells cs 43 (0, 0)) ∧ (W.setCell ⟨gx, 5, none⟩ v).heap[gx]? = some (.cells (cs.setIfInBounds 5 v) 43 (0, 0)) ∧ OwnsR' w0.heap.size (W.setCell ⟨gx, 5, none⟩ v) 92 4 v (dn.map rowV) ∧ Passed gx w0 pv S0 (W.setCell ⟨gx, 5, none⟩ v) S' := by
  have hgw := Nat.lt_of_lt_of_le h.size h.passed.size
  have row : W.heap[gx]? = some (.cells cs 43 (0, 0)) := (k.went.block gx hgw h.here.apart (by omega)).trans h.row
  have ha := k.went.away gx hgw h.here
  refine ⟨row, heap_setCell_same W gx 5 _ _ _ row, (owns_same (k.own.less h.passed.size) fun j hj => Below.heap_setCell _ _ _ _ ?_), passed_grown (passed_more h.passed k.went h.passed.size) (grown_cell _ _ _ _) (fun k hk => by cases hk; exact ha) (fun k hk => by cases hk; exact .inl rfl)⟩
  have := (k.own.lt j hj).1
  show j ≠ gx
  omega
theorem PS.fits_le {S : PS} {j k : Nat} (h : S.fits k) (hj : j ≤ k) : S.fits j := by
  cases S with
  | wr l f => unfold PS.fits at h ⊢; dsimp only at h ⊢; omega
  | rd b => trivial

set_option maxHeartbeats 1600000 in
theorem laySummary_is {w : World} {pv : Value} {S : PS} {gx : Nat} {seq first time cap : Nat} {commit : Bool} {next : Int} {L : List (List FldD)} {a : Option Addr} {K : Nat}
    (hport : IsPort w pv S) (hx : w.heap[gx]? = some (.cells #[.int .u64 seq, .int .u64 first, .bool commit, .int .i64 next, .int .u32 time, .slice a L.length cap] 43 (0, 0))) (hax : Away w pv S gx)
    (k0 : seq < 18446744073709551616) (k1 : first < 18446744073709551616) (k3 : I64 next) (k4 : time < 4294967296) (hL : ∀ x ∈ L, IsFEntry x) (hLl : L.length ≤ 2000) (hr : ReadsR w a 4 (L.map rowV))
    (hap : L ≠ [] → ∀ b off, a = some ⟨b, off, none⟩ → b < w.heap.size ∧ Apart w pv S b ∧ b ≠ gx) (hf : S.fits 24)
    (hKn : (((S.next 8 seq).next 8 first).next 1 (u64of (flagN commit))).numI 1 (L.length : Int) = (K : Nat)) (hK : K ≤ 2000) (hfit : ∀ i, i < K → (runS zeroEntry L (sumS S seq first commit L.length next time) i).fits 9) :
    Calls Tryz.prog 31 #[pv, .pointer (some ⟨gx, 0, none⟩)] w (SumPost gx w pv S seq first commit next time L K) := by
  obtain ⟨ti, vi, rfl⟩ := port_iface hport
  have H0 := Lib.hid (AtSum.start hport hx hax)
  have f1 : (S.next 8 seq).fits 16 := PS.fits_next (k := 16) hf
  have f2 : ((S.next 8 seq).next 8 first).fits 8 := PS.fits_next (k := 8) f1
  have f3 : (((S.next 8 seq).next 8 first).next 1 (u64of (flagN commit))).fits 7 := PS.fits_next (k := 7) f2
  have f4 : ((((S.next 8 seq).next 8 first).next 1 (u64of (flagN commit))).next 1 (u64of (L.length : Int))).fits 6 := PS.fits_next (k := 6) f3
  have f5 : (((((S.next 8 seq).next 8 first).next 1 (u64of (flagN commit))).next 1 (u64of (L.length : Int))).next 2 (u64of next)).fits 4 := PS.fits_next (k := 4) f4
  have HL := Lib.hid hL
  have HR := Lib.hid hr
  have HAP := Lib.hid hap
  have HFIT := Lib.hid hfit
  have HK := Lib.hid hKn
  have hLi : I64 (L.length : Int) := by unfold I64; omega
  have hx0 := (Array.getElem?_eq_some_iff.1 hx).1
  clear hport hx hax hL hr hap hfit hKn
  go_enter Tryz.func31, Tryz.ntmps31
  go_wp2_with fail
  refine (H0.out.u64 (m := 0) (q := 8) (by decide) (by decide) (PS.fits_le hf (by decide)) rfl k0).mono ?_
  rintro e w1 ⟨rfl, h1⟩
  have H1 := Lib.hid h1
  clear h1
  go_wp2_with fail
  refine (H1.out.u64 (m := 1) (q := 8) (by decide) (by decide) (PS.fits_le f1 (by decide)) rfl k1).mono ?_
  rintro e w2 ⟨rfl, h2⟩
  have H2 := Lib.hid h2
  clear h2 H1
  go_wp2_with fail
  refine (H2.out.flag (m := 2) (PS.fits_le f2 (by decide)) rfl).mono ?_
  rintro e w3 ⟨rfl, h3⟩
  have c3 : w3.cell? ⟨gx, 5, none⟩ = some (.slice a L.length cap) := (cell_of_row h3.row 5).trans rfl
  have H3 := Lib.hid h3
  clear h3 H2
  go_wp2_with fail
  refine (H3.out.count (PS.fits_le f3 (by decide)) hLi).mono ?_
  rintro e w5 ⟨rfl, h5, n5⟩
  have H5 := Lib.hid h5
  have N5 := Lib.hid n5
  clear h5 n5 c3
  go_wp2_with fail
  refine (H5.out.i64 (m := 3) (q := 2) (by decide) (by decide) (PS.fits_le f4 (by decide)) rfl k3).mono ?_
  rintro e w6 ⟨rfl, h6, p6⟩
  have H6 := Lib.hid h6
  have N6 := Lib.hid (N5.out.passed hx0 p6)
  clear h6 p6 H5 N5
  go_wp2_with fail
  refine (H6.out.u32 (m := 4) (q := 4) (by decide) (by decide) (PS.fits_le f5 (by decide)) rfl k4).mono ?_
  rintro e w7 ⟨rfl, h7, p7⟩
  have H7 := Lib.hid h7
  have N7 := Lib.hid (N6.out.passed hx0 p7)
  have c7 : w7.cell? ⟨gx, 5, none⟩ = some (.slice a L.length cap) := (cell_of_row h7.row 5).trans rfl
  have h7n := h7
  have n7 := N7.out
  rw [HK.out] at n7
  have hg7 : w3.heap.size < w7.heap.size := (Array.getElem?_eq_some_iff.1 n7.row).1
  have hrd : ReadsR w7 a 4 (L.map rowV) := readsR_passed HR.out h7n.passed (fun hl b off e => HAP.out (by rintro rfl; exact hl rfl) b off e)
  have hap7 : L ≠ [] → ∀ b off, a = some ⟨b, off, none⟩ → b < w7.heap.size ∧ Apart w7 (.iface ti vi) _ b := fun hl b off e => by
    obtain ⟨q1, q2, q3⟩ := HAP.out hl b off e
    exact ⟨Nat.lt_of_lt_of_le q1 h7n.passed.size, h7n.passed.apart b q1 q2⟩
  have HE := Lib.hid (eachEntry_is L HL.out a cap hrd hap7 h7n.passed.port K hK hLl HFIT.out 74 #[.pointer (some ⟨w3.heap.size, 0, none⟩)] enters_moreSum (fun i W v hi h => moreSum_is ((cell_of_row ((h.went.block w3.heap.size hg7 n7.away.apart (by omega)).trans n7.row) 0).trans rfl) i))
  clear h7 p7 H6 N6 N7 n7 hrd hap7 h7n hg7 H3 H0 HR HAP HFIT HL f1 f2 f3 f4 f5 hf
  go_wp2_with fail
  refine HE.out.mono ?_
  rintro e w8 ⟨v8, rfl, h8⟩
  obtain ⟨a8, n8, q8, rfl⟩ := each_shape h8
  obtain ⟨r8, fin⟩ := AtSum.fin H7.out h8
  have c8 : w8.cell? ⟨gx, 5, none⟩ = some (.slice a L.length cap) := (cell_of_row r8 5).trans rfl
  have g8 := frozen_of_row w8 gx 5 _ _ r8
  have FIN := Lib.hid fin
  clear h8 r8 fin c7 HE H7
  go_wp2_with fail
  go_end0
  exact ⟨rfl, _, FIN.out.1, FIN.out.2.1, FIN.out.2.2⟩
end Go.Proofs.YtgakidimipipeaaGreat

namespace Go.Proofs.YtgakidimipipeaaGreat
open Go.RowKit Go.Sort
set_option linter.unusedVariables false
set_option linter.unusedSimpArgs false
set_option maxRecDepth 100000

/-- A summary's numbers ahead of its entries, as they are laid. -/
def sumF (seq first : Nat) (commit : Bool) (n : Nat) (next : Int) (time : Nat) : List FldD :=
  [⟨.u64, 8, (seq : Int)⟩, ⟨.u64, 8, (first : Int)⟩, ⟨.i64, 1, flagN commit⟩, ⟨.i64, 1, (n : Int)⟩, ⟨.i64, 2, next⟩, ⟨.u32, 4, (time : Int)⟩]
theorem sumS_is (S : PS) {seq first time : Nat} (commit : Bool) (n : Nat) (next : Int) (k0 : seq < 18446744073709551616) (k1 : first < 18446744073709551616) (k4 : time < 4294967296) :
    sumS S seq first commit n next time = stS S (sumF seq first commit n next time) := by
  unfold sumS
  show _ = (((((S.next 8 (u64of (seq : Int))).next 8 (u64of (first : Int))).next 1 (u64of (flagN commit))).next 1 (u64of (n : Int))).next 2 (u64of next)).next 4 (u64of (time : Int))
  rw [u64of_nat k0, u64of_nat k1, u64of_nat (z := time) (by omega)]
theorem sumF_widths (seq first : Nat) (commit : Bool) (n : Nat) (next : Int) (time : Nat) : widths (sumF seq first commit n next time) = 24 := rfl
theorem sum_fits {hd : List FldD} (hw : widths hd = 24) {L : List (List FldD)} (hL : ∀ x ∈ L, IsFEntry x) (hl : L.length ≤ 200) (i : Nat) (hi : i < L.length) : (runS zeroEntry L (stS (.wr [] false) hd) i).fits 9 := by
  rw [runS_wr zeroEntry L _ i (by omega), ← stS_append, stS_is]
  show (wrB _).length + 9 ≤ 2000
  have h1 : widths (L.take i).flatten = (L.take i).length * 9 := widths_flat (W := 9) (fun x hx => isFEntry_widths (hL x (List.mem_of_mem_take hx)))
  have h2 : (L.take i).length ≤ i := by simp; omega
  rw [wrB_length, widths_append, hw, h1]
  omega

set_option maxHeartbeats 1600000 in
theorem pwriteSum_is {w : World} {seq first time cap : Nat} {commit : Bool} {next : Int} {L : List (List FldD)} {a : Option Addr}
    (k0 : seq < 18446744073709551616) (k1 : first < 18446744073709551616) (k3 : I64 next) (k4 : time < 4294967296) (hL : ∀ x ∈ L, IsFEntry x) (hLl : L.length ≤ 200) (hr : ReadsR w a 4 (L.map rowV)) :
    Calls Tryz.prog 68 #[.agg #[.int .u64 seq, .int .u64 first, .bool commit, .int .i64 next, .int .u32 time, .slice a L.length cap], .func (.func 31) #[] #[]] w fun e w' => Below w.heap.size w w' ∧
      ((wrF (sumF seq first commit L.length next time ++ L.flatten) = true ∧ e = .returned (.tuple #[.slice none 0 0, .int .i64 1])) ∨ (wrF (sumF seq first commit L.length next time ++ L.flatten) = false ∧ ∃ v, e = .returned (.tuple #[v, .int .i64 0]) ∧ Owns w.heap.size w' v (wrB (sumF seq first commit L.length next time ++ L.flatten)))) := by
  have b1 := below_box w (.cells #[.int .u64 seq, .int .u64 first, .bool commit, .int .i64 next, .int .u32 time, .slice a L.length cap] 43)
  have n1 := heap_alloc_new w (.cells #[.int .u64 seq, .int .u64 first, .bool commit, .int .i64 next, .int .u32 time, .slice a L.length cap] 43)
  obtain ⟨w1, hw1⟩ : ∃ w1, w.alloc (.cells #[.int .u64 seq, .int .u64 first, .bool commit, .int .i64 next, .int .u32 time, .slice a L.length cap] 43) = w1 := ⟨_, rfl⟩
  have hs1 : w1.heap.size = w.heap.size + 1 := by rw [← hw1]; simp
  rw [hw1] at b1 n1
  have b2 := below_box w1 (.cells #[.slice none 0 0, .bool false] 157)
  have hp := isPort_new w1
  have ha := fun k (hk : k < w1.heap.size) => away_new w1 hk
  obtain ⟨w2, hw2⟩ : ∃ w2, w1.alloc (.cells #[.slice none 0 0, .bool false] 157) = w2 := ⟨_, rfl⟩
  have hs2 : w2.heap.size = w.heap.size + 2 := by rw [← hw2]; simp [hs1]
  rw [hw2] at b2 hp ha
  have n2 := (b2.block w.heap.size (by omega)).trans n1
  have hr2 := (hr.below b1).below b2
  have hab : L ≠ [] → ∀ b off, a = some ⟨b, off, none⟩ → b < w2.heap.size ∧ Apart w2 (.iface 158 (.pointer (some ⟨w1.heap.size, 0, none⟩))) (.wr [] false) b ∧ b ≠ w.heap.size := fun hne b off e => by
    obtain ⟨_, h | ⟨b', off', e', hb', _⟩⟩ := hr
    · exact absurd (List.map_eq_nil_iff.1 h) hne
    · rw [e] at e'
      cases e'
      exact ⟨by omega, (ha b (by omega)).apart, by omega⟩
  have hwr : ∃ l f, (((PS.wr [] false).next 8 seq).next 8 first).next 1 (u64of (flagN commit)) = .wr l f := by
    obtain ⟨l, f, e⟩ := stS_wr [⟨.u64, 8, (seq : Int)⟩, ⟨.u64, 8, (first : Int)⟩, ⟨.i64, 1, flagN commit⟩] [] false
    refine ⟨l, f, ?_⟩
    rw [← e]
    show _ = (((PS.wr [] false).next 8 (u64of (seq : Int))).next 8 (u64of (first : Int))).next 1 (u64of (flagN commit))
    rw [u64of_nat k0, u64of_nat k1]
  have hKn : ((((PS.wr [] false).next 8 seq).next 8 first).next 1 (u64of (flagN commit))).numI 1 (L.length : Int) = (L.length : Nat) := by
    obtain ⟨l, f, e⟩ := hwr
    rw [e]
    rfl
  have hS := sumS_is (.wr [] false) commit L.length next k0 k1 k4
  have hfit : ∀ i, i < L.length → (runS zeroEntry L (sumS (.wr [] false) seq first commit L.length next time) i).fits 9 := fun i hi => by
    rw [hS]
    exact sum_fits (sumF_widths _ _ _ _ _ _) hL hLl i hi
  have HST := Lib.hid (laySummary_is hp n2 (ha _ (by omega)) k0 k1 k3 k4 hL (by omega) hr2 hab (by show 0 + 24 ≤ 2000; omega) hKn (by omega) hfit)
  unfold SumPost at HST
  rw [hS, runS_wr zeroEntry L _ L.length (Nat.le_refl _), List.take_length, ← stS_append] at HST
  have HA := Lib.hid ha
  have HB2 := Lib.hid (below_next b1 b2)
  obtain ⟨F, hF⟩ : ∃ F, sumF seq first commit L.length next time ++ L.flatten = F := ⟨_, rfl⟩
  rw [hF, stS_is F] at HST
  rw [hF]
  clear b1 n1 b2 hp ha n2 hr hr2 hab hwr hKn hS hfit hF
  go_enter Tryz.func68, Tryz.ntmps68
  go_wp2_with fail
  rw [hs1] at HST HA
  refine HST.out.mono ?_
  rintro e w3 ⟨rfl, v3, _, _, hp3⟩
  obtain ⟨g, v, he, hw3, ho3⟩ := hp3.port
  obtain rfl : g = w.heap.size + 1 := by cases he; rfl
  have hb3 : Below w.heap.size w w3 := by
    have hb : Below w.heap.size w2 w3 := by
      refine ⟨hp3.os, hp3.tape, hp3.output, hp3.size, fun k hk => ?_⟩
      exact hp3.block k (by omega) (HA.out k (by omega)).apart (by omega)
    exact HB2.out.trans hb
  have hon : Owns w.heap.size w3 v (wrB F) := by
    refine owns_raise ho3 fun k hk => ?_
    have h2 := hp3.away k (by omega) (HA.out k (by omega))
    exact ((away_wr ⟨hw3, ho3⟩).1 h2).2
  have c0 := cell_of_row hw3 0
  have c1 := cell_of_row hw3 1
  obtain ⟨av, lv, cpv, hv⟩ := owned_slice hon.2
  subst hv
  have HB3 := Lib.hid hb3
  have HO := Lib.hid hon
  clear hp3 hw3 ho3 hon hb3 he HST HA HB2 hw1 hw2
  cases hf : wrF F with
  | true =>
    rw [hf] at c1
    go_wp2
    go_ret2
    exact ⟨HB3.out, .inl ⟨hf, rfl⟩⟩
  | false =>
    rw [hf] at c1
    go_wp2
    go_ret2
    exact ⟨HB3.out, .inr ⟨hf, _, rfl, HO.out⟩⟩
end Go.Proofs.YtgakidimipipeaaGreat
