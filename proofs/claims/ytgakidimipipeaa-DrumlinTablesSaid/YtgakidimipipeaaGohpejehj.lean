/- The laying of one Slot through a port, and of many, one behind the other (part.Each). Whether there is more; the laying of a list of Slots (part.Rest). The laying of a list of Slots (part.Rest's closure). Lists of Slots written to bytes and read of bytes (part.Write, part.Read). -/
import Derived.Test.YtgakidimipipeaaGhmedploj
import Derived.Shelf.Abstract
import Derived.Test.YtgakidimipipeaaGbndcdfka
import Derived.Deep.RegionWith
import Derived.Deep.RegionHeld3
import Derived.Test.YtgakidimipipeaaGaefblgki
namespace Go.Proofs.Ytgakidimipipeaa
open Go.RowKit Go.Sort
set_option linter.unusedVariables false
set_option linter.unusedSimpArgs false
set_option maxRecDepth 100000

def fldSlot (z0 z1 z2 z3 : Int) : List FldD := [⟨.i64, 4, z0⟩, ⟨.u32, 4, z1⟩, ⟨.i64, 2, z2⟩, ⟨.i64, 1, z3⟩]
def IsFSlot (l : List FldD) : Prop := ∃ z0 z1 z2 z3 : Int, l = fldSlot z0 z1 z2 z3 ∧ I64 z0 ∧ (0 ≤ z1 ∧ z1 < 4294967296) ∧ I64 z2 ∧ I64 z3
def zeroSlot : List FldD := fldSlot 0 0 0 0
theorem zeroSlot_is : IsFSlot zeroSlot := ⟨0, 0, 0, 0, rfl, by unfold I64; omega, by omega, by unfold I64; omega, by unfold I64; omega⟩
theorem isFSlot_length {l : List FldD} (h : IsFSlot l) : l.length = 4 := by obtain ⟨z0, z1, z2, z3, rfl, _⟩ := h; rfl
theorem isFSlot_widths {l : List FldD} (h : IsFSlot l) : widths l = 11 := by obtain ⟨z0, z1, z2, z3, rfl, _⟩ := h; rfl
set_option maxHeartbeats 1600000 in
theorem laySlot_is {l : List FldD} {gx : Nat} {w0 w : World} {pv : Value} {S : PS} (hl : IsFSlot l) (h : LayAt l gx 28 w0 pv S 0 w) :
    Calls Try.prog 102 #[pv, .pointer (some ⟨gx, 0, none⟩)] w fun e w' => e = .returned (.tuple #[]) ∧ LayAt l gx 28 w0 pv S 4 w' := by
  obtain ⟨z0, z1, z2, z3, rfl, k0, k1, k2, k3⟩ := hl
  have H := Lib.hid h
  clear h
  go_enter Try.func102, Try.ntmps102
  go_wp2_with fail
  refine (lay_i64 (q := 4) H.out rfl k0 (by decide) (by decide)).mono ?_
  rintro e w1 ⟨rfl, h1⟩
  have H1 := Lib.hid h1
  clear h1 H
  go_wp2_with fail
  refine (lay_u32 (q := 4) H1.out rfl k1 (by decide) (by decide)).mono ?_
  rintro e w2 ⟨rfl, h2⟩
  have H2 := Lib.hid h2
  clear h2 H1
  go_wp2_with fail
  refine (lay_i64 (q := 2) H2.out rfl k2 (by decide) (by decide)).mono ?_
  rintro e w3 ⟨rfl, h3⟩
  have H3 := Lib.hid h3
  clear h3 H2
  go_wp2_with fail
  refine (lay_i64 (q := 1) H3.out rfl k3 (by decide) (by decide)).mono ?_
  rintro e w4 ⟨rfl, h4⟩
  have H4 := Lib.hid h4
  clear h4 H3
  go_wp2
  go_end0
  exact ⟨rfl, H4.out⟩
theorem infoSlot : (Try.prog.info? 28).map (fun i => (i.zero, i.size, i.bytes)) = some (some (.agg #[.int .i64 0, .int .u32 0, .int .i64 0, .int .i64 0]), 4, 32) := by kernel_rfl
set_option maxHeartbeats 1600000 in
theorem eachSlot_is {w0 : World} {pv : Value} {S0 : PS} (L : List (List FldD)) (hL : ∀ x ∈ L, IsFSlot x) (a : Option Addr) (cap : Nat) (hr : ReadsR w0 a 4 (L.map rowV)) (hap : L ≠ [] → ∀ b off, a = some ⟨b, off, none⟩ → b < w0.heap.size ∧ Apart w0 pv S0 b) (hport : IsPort w0 pv S0)
    (K : Nat) (hK : K ≤ 2000) (hLl : L.length ≤ 2000) (hfit : ∀ i, i < K → (runS zeroSlot L S0 i).fits 11) (gm : Nat) (caps : Array Value) (eg : ∀ args w, (callFunc gm args).run Try.prog w = .ok (.enter gm args) w)
    (hmore : ∀ (i : Nat) (W : World) (v : Value), i ≤ K → EachAt 28 4 w0 pv S0 W (runS zeroSlot L S0 i) v (runD zeroSlot L S0 i) → Calls Try.prog gm (#[.int .i64 (i : Int)] ++ caps) W fun e w' => e = .returned (.bool (decide (i < K))) ∧ W = w') :
    Calls Try.prog 127 #[pv, .slice a L.length cap, .func (.func gm) #[] caps, .func (.func 102) #[] #[]] w0 fun e w' => ∃ v, e = .returned v ∧ EachAt 28 4 w0 pv S0 w' (runS zeroSlot L S0 K) v (runD zeroSlot L S0 K) := by
  obtain ⟨n, hn⟩ : ∃ n, L.length = n := ⟨_, rfl⟩
  have HN := Lib.hid hn
  have HST := Lib.hid (each_start 28 4 hport)
  have HL := Lib.hid hL
  have HR := Lib.hid hr
  have HAP := Lib.hid hap
  have HF := Lib.hid hfit
  have HM := Lib.hid hmore
  rw [hn] at hLl ⊢
  clear hn hL hr hap hfit hmore hport
  go_enter Try.func127, Try.ntmps127
  go_wp2_with fail
  go_loopw [9, 10] (fun v i wr => ∃ k : Nat, k ≤ K ∧ i = .int .i64 k ∧ Hid (EachAt 28 4 w0 pv S0 wr (runS zeroSlot L S0 k) v (runD zeroSlot L S0 k))) (fun _ i _ => K - (intOf i).toNat)
  case atStart => exact ⟨0, Nat.zero_le _, rfl, HST.out⟩
  case round =>
    rename_i v9 _ _
    obtain ⟨k, hk, rfl, HE⟩ := hrel
    have hm := HM.out k wr _ hk HE.out
    by_cases hlt : k < K
    · have hd : decide (k < K) = true := decide_eq_true hlt
      rw [hd] at hm
      have HMK := Lib.hid hm
      have hfk := HF.out k hlt
      obtain ⟨S, hS⟩ : ∃ S, runS zeroSlot L S0 k = S := ⟨_, rfl⟩
      obtain ⟨Dn, hD⟩ : ∃ Dn, runD zeroSlot L S0 k = Dn := ⟨_, rfl⟩
      have hDl : Dn.length = k := by rw [← hD]; exact runD_length _ _ _ _
      have HS : Hid (runS zeroSlot L S0 (k + 1) = stS S (itemAt zeroSlot L k) ∧ runD zeroSlot L S0 (k + 1) = Dn ++ [stO S (itemAt zeroSlot L k)]) := by show _ ∧ _; rw [← hS, ← hD]; exact ⟨rfl, rfl⟩
      rw [hS] at hfk
      rw [hS, hD] at HE
      have HDL := Lib.hid hDl
      clear hm hd hS hD hDl
      have hx0 : (0 : Int) ≤ (k : Int) := by omega
      by_cases hil : k < n
      · obtain ⟨x, hx⟩ : ∃ x, L[k]? = some x := ⟨_, List.getElem?_eq_getElem (by rw [HN.out]; exact hil)⟩
        have hit : itemAt zeroSlot L k = x := itemAt_in hx
        rw [hit] at HS
        have hLne : L ≠ [] := by rintro rfl; simp at hx
        have hxi := HL.out x (List.mem_of_getElem? hx)
        have hxw := isFSlot_widths hxi
        have HXI := Lib.hid hxi
        obtain ⟨z0, z1, z2, z3, rfl, k0, k1, k2, k3⟩ := hxi
        obtain ⟨b, off, rfl, hb, hc⟩ := HR.out.row (show (L.map rowV)[k]? = some (rowV (fldSlot z0 z1 z2 z3)) by rw [List.getElem?_map, hx]; rfl)
        obtain ⟨_, hapb⟩ := HAP.out hLne b off rfl
        have hcell : ∀ (i : Nat) (u : Value), (rowV (fldSlot z0 z1 z2 z3))[i]? = some u → (wr.alloc (.cells #[.int .i64 0, .int .u32 0, .int .i64 0, .int .i64 0] 28)).cell? ⟨b, off + k * 4 + i, none⟩ = some u := fun i u hi => by
          have h1 := hc i u hi
          rw [← Nat.add_assoc] at h1
          refine ((below_box wr (.cells #[.int .i64 0, .int .u32 0, .int .i64 0, .int .i64 0] 28)).cell (p := ⟨b, off + k * 4 + i, none⟩) (Nat.lt_of_lt_of_le hb HE.out.went.size)).trans ?_
          exact (World.cell?_of_block (a := ⟨b, off + k * 4 + i, none⟩) (HE.out.went.block b hb hapb (by omega))).trans h1
        have c0 : (wr.alloc (.cells #[.int .i64 0, .int .u32 0, .int .i64 0, .int .i64 0] 28)).cell? ⟨b, off + k * 4, none⟩ = some (.int .i64 z0) := hcell 0 _ rfl
        have c1 : (wr.alloc (.cells #[.int .i64 0, .int .u32 0, .int .i64 0, .int .i64 0] 28)).cell? ⟨b, off + k * 4 + 1, none⟩ = some (.int .u32 z1) := hcell 1 _ rfl
        have c2 : (wr.alloc (.cells #[.int .i64 0, .int .u32 0, .int .i64 0, .int .i64 0] 28)).cell? ⟨b, off + k * 4 + 2, none⟩ = some (.int .i64 z2) := hcell 2 _ rfl
        have c3 : (wr.alloc (.cells #[.int .i64 0, .int .u32 0, .int .i64 0, .int .i64 0] 28)).cell? ⟨b, off + k * 4 + 3, none⟩ = some (.int .i64 z3) := hcell 3 _ rfl
        have HLAY : Hid (LayAt (fldSlot z0 z1 z2 z3) wr.heap.size 28 (wr.alloc (.cells #[.int .i64 z0, .int .u32 z1, .int .i64 z2, .int .i64 z3] 28)) pv S 0 (wr.alloc (.cells #[.int .i64 z0, .int .u32 z1, .int .i64 z2, .int .i64 z3] 28))) := Lib.hid (HE.out.lay (fldSlot z0 z1 z2 z3) (by rw [hxw]; exact hfk))
        have hx1 : (k : Int) < (n : Int) := by omega
        have HIT := Lib.hid hit
        clear hc hcell hx hit hLne hapb hb hfk hxw hil
        go_wp2_with (go_at_fn gm; refine HMK.out.mono ?_; rintro e w1 ⟨rfl, rfl⟩)
        refine (laySlot_is HXI.out HLAY.out).mono ?_
        rintro e w2 ⟨rfl, h2⟩
        obtain ⟨E2, row2, sz2⟩ := HE.out.laid (isFSlot_length HXI.out) h2
        obtain ⟨y0, y1, y2, y3, hout⟩ : ∃ y0 y1 y2 y3, stO S (fldSlot z0 z1 z2 z3) = fldSlot y0 y1 y2 y3 := ⟨_, _, _, _, rfl⟩
        rw [hout] at row2 HS
        have e0 : w2.cell? ⟨wr.heap.size, 0, none⟩ = some (.int .i64 y0) := (cell_of_row row2 0).trans rfl
        have e1 : w2.cell? ⟨wr.heap.size, 1, none⟩ = some (.int .u32 y1) := (cell_of_row row2 1).trans rfl
        have e2 : w2.cell? ⟨wr.heap.size, 2, none⟩ = some (.int .i64 y2) := (cell_of_row row2 2).trans rfl
        have e3 : w2.cell? ⟨wr.heap.size, 3, none⟩ = some (.int .i64 y3) := (cell_of_row row2 3).trans rfl
        have HE2 := Lib.hid (E2.alloc (.cells #[.int .i64 y0, .int .u32 y1, .int .i64 y2, .int .i64 y3] 28))
        have n3 : (w2.alloc (.cells #[.int .i64 y0, .int .u32 y1, .int .i64 y2, .int .i64 y3] 28)).heap[w2.heap.size]? = some (.cells (cellsF (fldSlot y0 y1 y2 y3)) 28 (0, 0)) := heap_alloc_new w2 _
        have HN3 := Lib.hid n3
        have HSZ : Hid (w0.heap.size ≤ w2.heap.size) := Lib.hid E2.went.size
        have HDL2 : Hid ((Dn.map rowV).length = k) := by show _ = _; rw [List.length_map]; exact HDL.out
        clear h2 E2 hout row2 sz2 n3
        go_wp2_with (at_builtin; refine wpList_append_row_at rfl _ _ _ rfl w0.heap.size 28 _ 4 32 Try.underlying24 infoSlot rfl (by decide) _ (Dn.map rowV) rfl HE2.out.own w2.heap.size 1 (rowV (fldSlot y0 y1 y2 y3)) rfl rfl (fun j u hj => ((cell_of_row HN3.out j).trans (cellsF_row _ j)).trans hj) (fun u hu => by simp only [fldSlot, rowV, List.map_cons, List.map_nil, List.mem_cons, List.not_mem_nil, or_false] at hu; rcases hu with rfl | rfl | rfl | rfl <;> rfl) (by rw [HDL2.out]; omega) (by rw [HDL2.out]; unfold maxLen; omega) (by simp; have := HSZ.out; omega) ?_; intro v4 w4 o4 g4 l4; have E4 := Lib.hid (HE2.out.next o4 g4 l4); clear o4 g4 l4)
        go_roundw
        case rel =>
          refine ⟨k + 1, by omega, by go_num, ?_⟩
          show EachAt _ _ _ _ _ _ _ _ _
          rw [HS.out.1, HS.out.2]
          exact E4.out
        case measure => simp [intOf]; omega
      · have hit : itemAt zeroSlot L k = zeroSlot := itemAt_out (by rw [HN.out]; omega)
        rw [hit] at HS
        have HXI := Lib.hid zeroSlot_is
        have HLAY : Hid (LayAt zeroSlot wr.heap.size 28 (wr.alloc (.cells #[.int .i64 0, .int .u32 0, .int .i64 0, .int .i64 0] 28)) pv S 0 (wr.alloc (.cells #[.int .i64 0, .int .u32 0, .int .i64 0, .int .i64 0] 28))) := Lib.hid (HE.out.lay zeroSlot (by rw [isFSlot_widths zeroSlot_is]; exact hfk))
        have hx1 : ¬ (k : Int) < (n : Int) := by omega
        clear hit hfk hil
        go_wp2_with (go_at_fn gm; refine HMK.out.mono ?_; rintro e w1 ⟨rfl, rfl⟩)
        refine (laySlot_is HXI.out HLAY.out).mono ?_
        rintro e w2 ⟨rfl, h2⟩
        obtain ⟨E2, row2, sz2⟩ := HE.out.laid (isFSlot_length HXI.out) h2
        obtain ⟨y0, y1, y2, y3, hout⟩ : ∃ y0 y1 y2 y3, stO S zeroSlot = fldSlot y0 y1 y2 y3 := ⟨_, _, _, _, rfl⟩
        rw [hout] at row2 HS
        have e0 : w2.cell? ⟨wr.heap.size, 0, none⟩ = some (.int .i64 y0) := (cell_of_row row2 0).trans rfl
        have e1 : w2.cell? ⟨wr.heap.size, 1, none⟩ = some (.int .u32 y1) := (cell_of_row row2 1).trans rfl
        have e2 : w2.cell? ⟨wr.heap.size, 2, none⟩ = some (.int .i64 y2) := (cell_of_row row2 2).trans rfl
        have e3 : w2.cell? ⟨wr.heap.size, 3, none⟩ = some (.int .i64 y3) := (cell_of_row row2 3).trans rfl
        have HE2 := Lib.hid (E2.alloc (.cells #[.int .i64 y0, .int .u32 y1, .int .i64 y2, .int .i64 y3] 28))
        have n3 : (w2.alloc (.cells #[.int .i64 y0, .int .u32 y1, .int .i64 y2, .int .i64 y3] 28)).heap[w2.heap.size]? = some (.cells (cellsF (fldSlot y0 y1 y2 y3)) 28 (0, 0)) := heap_alloc_new w2 _
        have HN3 := Lib.hid n3
        have HSZ : Hid (w0.heap.size ≤ w2.heap.size) := Lib.hid E2.went.size
        have HDL2 : Hid ((Dn.map rowV).length = k) := by show _ = _; rw [List.length_map]; exact HDL.out
        clear h2 E2 hout row2 sz2 n3
        go_wp2_with (at_builtin; refine wpList_append_row_at rfl _ _ _ rfl w0.heap.size 28 _ 4 32 Try.underlying24 infoSlot rfl (by decide) _ (Dn.map rowV) rfl HE2.out.own w2.heap.size 1 (rowV (fldSlot y0 y1 y2 y3)) rfl rfl (fun j u hj => ((cell_of_row HN3.out j).trans (cellsF_row _ j)).trans hj) (fun u hu => by simp only [fldSlot, rowV, List.map_cons, List.map_nil, List.mem_cons, List.not_mem_nil, or_false] at hu; rcases hu with rfl | rfl | rfl | rfl <;> rfl) (by rw [HDL2.out]; omega) (by rw [HDL2.out]; unfold maxLen; omega) (by simp; have := HSZ.out; omega) ?_; intro v4 w4 o4 g4 l4; have E4 := Lib.hid (HE2.out.next o4 g4 l4); clear o4 g4 l4)
        go_roundw
        case rel =>
          refine ⟨k + 1, by omega, by go_num, ?_⟩
          show EachAt _ _ _ _ _ _ _ _ _
          rw [HS.out.1, HS.out.2]
          exact E4.out
        case measure => simp [intOf]; omega
    · have hd : decide (k < K) = false := decide_eq_false hlt
      rw [hd] at hm
      obtain rfl : k = K := by omega
      have HMK := Lib.hid hm
      clear hm hd
      go_wp2_with (go_at_fn gm; refine HMK.out.mono ?_; rintro e w1 ⟨rfl, rfl⟩)
      go_ret
      exact ⟨_, rfl, HE.out⟩
end Go.Proofs.Ytgakidimipipeaa

namespace Go.Proofs.Ytgakidimipipeaa
open Go.RowKit Go.Sort
set_option linter.unusedVariables false
set_option linter.unusedSimpArgs false
set_option maxRecDepth 100000

theorem enters_moreSlot (args : Array Value) (w : World) : (callFunc 128 args).run Try.prog w = .ok (.enter 128 args) w := enters_of Try.func128 (by kernel_rfl) rfl args w
theorem moreSlot_is {w : World} {pv : Value} {S : PS} (h : IsPort w pv S) {gl gx gp n cap : Nat} {a : Option Addr} (cl : w.cell? ⟨gl, 0, none⟩ = some (.pointer (some ⟨gx, 0, none⟩))) (cx : w.cell? ⟨gx, 0, none⟩ = some (.slice a n cap)) (cp : w.cell? ⟨gp, 0, none⟩ = some pv) (i : Nat) :
    Calls Try.prog 128 #[.int .i64 (i : Int), .pointer (some ⟨gl, 0, none⟩), .pointer (some ⟨gp, 0, none⟩)] w fun e w' => e = .returned (.bool (decide (i < n ∨ 0 < leftS S))) ∧ w = w' := by
  by_cases hi : i < n
  · have h1 : (i : Int) < (n : Int) := by omega
    have hd : decide (i < n ∨ 0 < leftS S) = true := decide_eq_true (.inl hi)
    rw [hd]
    clear h hd hi
    go_enter Try.func128, Try.ntmps128
    go_wp2
    go_ret
    exact ⟨rfl, rfl⟩
  · have h1 : decide (i < n) = false := decide_eq_false hi
    have hd : decide (i < n ∨ 0 < leftS S) = decide (0 < leftS S) := by simp [hi]
    rw [hd]
    have HL := Lib.hid (left_is h)
    cases S with
    | wr l f =>
      obtain ⟨g, v, rfl, hw⟩ := h
      have hna := fun n hn w => naL_wr n g w hn
      have hmt := fun n hn w => mtL_wr n g w hn
      clear hd hi hw
      go_enter Try.func128, Try.ntmps128
      go_wp2_with (go_at_call 160; refine HL.out.mono ?_; rintro e w1 ⟨rfl, rfl⟩)
      go_ret
      exact ⟨rfl, rfl⟩
    | rd b =>
      obtain ⟨g, a2, cap2, rfl, hw⟩ := h
      have hna := fun n hn w => naL_rd n g w hn
      have hmt := fun n hn w => mtL_rd n g w hn
      obtain ⟨m, hm⟩ : ∃ m, leftS (.rd b) = m := ⟨_, rfl⟩
      rw [hm] at HL ⊢
      clear hd hi hw hm
      go_enter Try.func128, Try.ntmps128
      go_wp2_with (go_at_call 162; refine HL.out.mono ?_; rintro e w1 ⟨rfl, rfl⟩)
      go_ret
      exact ⟨rfl, rfl⟩
end Go.Proofs.Ytgakidimipipeaa

namespace Go.Proofs.Ytgakidimipipeaa
open Go.RowKit Go.Sort
set_option linter.unusedVariables false
set_option linter.unusedSimpArgs false
set_option maxRecDepth 100000

set_option maxHeartbeats 3200000 in
theorem restSlot_is {w : World} {pv : Value} {S : PS} (hport : IsPort w pv S) (L : List (List FldD)) (hL : ∀ x ∈ L, IsFSlot x) (a : Option Addr) (cap gx gb : Nat) (lt tb : TypeId) (hlt : lt ≠ 28) (nx : w.heap[gx]? = some (.cells #[.slice a L.length cap] lt (0, 0))) (hax : Away w pv S gx)
    (nb : w.heap[gb]? = some (.cells #[.func (.func 102) #[] #[]] tb (0, 0))) (hab : Apart w pv S gb) (hxb : gx ≠ gb)
    (hr : ReadsR w a 4 (L.map rowV)) (hap : L ≠ [] → ∀ b off, a = some ⟨b, off, none⟩ → b < w.heap.size ∧ Apart w pv S b)
    (K : Nat) (hK : K ≤ 2000) (hLl : L.length ≤ 2000) (hfit : ∀ i, i < K → (runS zeroSlot L S i).fits 11) (hM : ∀ i, i ≤ K → decide (i < L.length ∨ 0 < leftS (runS zeroSlot L S i)) = decide (i < K)) :
    Calls Try.prog 126 #[pv, .pointer (some ⟨gx, 0, none⟩), .pointer (some ⟨gb, 0, none⟩)] w (RestPost 28 lt 4 w pv S (runS zeroSlot L S K) gx (runD zeroSlot L S K)) := by
  obtain ⟨ti, vi, rfl⟩ := port_iface hport
  have q1 := below_box w (.cells #[(.iface ti vi)] 179)
  have m1 := heap_alloc_new w (.cells #[(.iface ti vi)] 179)
  obtain ⟨w1, hw1⟩ : ∃ x, w.alloc (.cells #[(.iface ti vi)] 179) = x := ⟨_, rfl⟩
  have hs1 : w1.heap.size = w.heap.size + 1 := by rw [← hw1]; simp
  rw [hw1] at q1 m1
  have q2 := below_box w1 (.cells #[.pointer (some ⟨gx, 0, none⟩)] 197)
  have m2 := heap_alloc_new w1 (.cells #[.pointer (some ⟨gx, 0, none⟩)] 197)
  obtain ⟨w2, hw2⟩ : ∃ x, w1.alloc (.cells #[.pointer (some ⟨gx, 0, none⟩)] 197) = x := ⟨_, rfl⟩
  have hs2 : w2.heap.size = w.heap.size + 2 := by rw [← hw2]; simp [hs1]
  rw [hw2, hs1] at q2 m2
  obtain ⟨w3, hw3⟩ : ∃ x, w2.drew = x := ⟨_, rfl⟩
  have hs3 : w3.heap.size = w.heap.size + 2 := by rw [← hw3]; exact hs2
  have q3 : Below (w.heap.size + 1) w1 w3 := by rw [← hw3]; exact q2.drew
  have m3 : w3.heap[w.heap.size + 1]? = some (.cells #[.pointer (some ⟨gx, 0, none⟩)] 197 (0, 0)) := by rw [← hw3]; exact m2
  have hq := below_next q1 (hs1 ▸ q3)
  have hgx : gx < w.heap.size := (Array.getElem?_eq_some_iff.1 nx).1
  have hgb : gb < w.heap.size := (Array.getElem?_eq_some_iff.1 nb).1
  have m12 := (q3.block w.heap.size (by omega)).trans m1
  have nx2 := (hq.block gx hgx).trans nx
  have nb2 := (hq.block gb hgb).trans nb
  obtain ⟨p1, p2, p3⟩ := port_kept hport (below_grown0 hq) (fun k hk => by cases hk)
  have hax2 := (p2 gx).1 hax
  have hab2 := (p3 gb).1 hab
  have hr2 := hr.below hq
  have hap2 : L ≠ [] → ∀ b off, a = some ⟨b, off, none⟩ → b < w3.heap.size ∧ Apart w3 (.iface ti vi) S b := fun h b off e => ⟨by have := (hap h b off e).1; omega, (p3 b).1 (hap h b off e).2⟩
  have aP : Apart w3 (.iface ti vi) S w.heap.size := (p3 _).1 (away_ne hport (Nat.le_refl _))
  have aL : Apart w3 (.iface ti vi) S (w.heap.size + 1) := (p3 _).1 (away_ne hport (by omega))
  have keep : ∀ (W : World) (v : Value) (S' : PS) (dn : List (List FldD)), EachAt 28 4 w3 (.iface ti vi) S W S' v dn → W.heap[gx]? = some (.cells #[.slice a L.length cap] lt (0, 0)) ∧ W.heap[gb]? = some (.cells #[.func (.func 102) #[] #[]] tb (0, 0)) ∧ W.heap[w.heap.size]? = some (.cells #[(.iface ti vi)] 179 (0, 0)) ∧ W.heap[w.heap.size + 1]? = some (.cells #[.pointer (some ⟨gx, 0, none⟩)] 197 (0, 0)) := fun W v S' dn h =>
    ⟨(h.went.block gx (by omega) hax2.apart (by omega)).trans nx2, (h.went.block gb (by omega) hab2 (by omega)).trans nb2, (h.went.block w.heap.size (by omega) aP (by omega)).trans m12, (h.went.block (w.heap.size + 1) (by omega) aL (by omega)).trans m3⟩
  have hmore : ∀ (i : Nat) (W : World) (v : Value), i ≤ K → EachAt 28 4 w3 (.iface ti vi) S W (runS zeroSlot L S i) v (runD zeroSlot L S i) → Calls Try.prog 128 (#[.int .i64 (i : Int)] ++ #[.pointer (some ⟨w.heap.size + 1, 0, none⟩), .pointer (some ⟨w.heap.size, 0, none⟩)]) W fun e w' => e = .returned (.bool (decide (i < K))) ∧ W = w' := fun i W v hi h => by
    obtain ⟨k1, k2, k3, k4⟩ := keep W v _ _ h
    have := moreSlot_is (n := L.length) (cap := cap) (a := a) h.went.port ((cell_of_row k4 0).trans rfl) ((cell_of_row k1 0).trans rfl) ((cell_of_row k3 0).trans rfl) i
    rw [hM i hi] at this
    exact this
  have HCALL := Lib.hid (eachSlot_is L hL a cap hr2 hap2 p1 K hK hLl hfit 128 _ enters_moreSlot hmore)
  have HKEEP := Lib.hid keep
  have HFIN := Lib.hid (fun (W : World) (v : Value) (S' : PS) (dn : List (List FldD)) (h : EachAt 28 4 w3 (.iface ti vi) S W S' v dn) => (show RestPost 28 lt 4 w (.iface ti vi) S S' gx dn (.returned (.tuple #[])) (W.setCell ⟨gx, 0, none⟩ v) from rest_fin hport hq hlt hgx hax nx h))
  have c0 : w3.cell? ⟨w.heap.size + 1, 0, none⟩ = some (.pointer (some ⟨gx, 0, none⟩)) := (cell_of_row m3 0).trans rfl
  have c1 : w3.cell? ⟨w.heap.size, 0, none⟩ = some (.iface ti vi) := (cell_of_row m12 0).trans rfl
  have c2 : w3.cell? ⟨gx, 0, none⟩ = some (.slice a L.length cap) := (cell_of_row nx2 0).trans rfl
  have c3 : w3.cell? ⟨gb, 0, none⟩ = some (.func (.func 102) #[] #[]) := (cell_of_row nb2 0).trans rfl
  clear q1 m1 q2 m2 q3 m3 hq m12 nx2 nb2 p1 p2 p3 hax2 hab2 hr2 hap2 aP aL keep hmore nx nb hr hap hax hab hport hL hfit hM hs2 hs3
  go_enter Try.func126, Try.ntmps126
  go_wp2_with fail
  subst hw3
  refine wp_region_held_drew (S := fun W => W.cell? ⟨w.heap.size + 1, 0, none⟩ = some (.pointer (some ⟨gx, 0, none⟩)) ∧ W.cell? ⟨w.heap.size, 0, none⟩ = some (.iface ti vi) ∧ W.cell? ⟨gb, 0, none⟩ = some (.func (.func 102) #[] #[])) (by kernel_rfl) ⟨c0, c1, c3⟩ (fun hHeld => ?_)
  refine wpAnyH_take (i := 0) (v := .pointer (some ⟨gx, 0, none⟩)) rfl (by kernel_rfl) (by kernel_rfl) (by kernel_rfl) (fun _ _ _ h => h) (Or.inl ⟨by rfl, by intro W hSw; (try dsimp only at hSw); go_simp⟩) (by assumption) ?_
  try simp only [Act.put, List.setIfInBounds_toArray, List.set_cons_zero, List.set_cons_succ]
  refine wpAnyH_take (i := 1) (v := .iface ti vi) rfl (by kernel_rfl) (by kernel_rfl) (by kernel_rfl) (fun _ _ _ h => h) (Or.inl ⟨by rfl, by intro W hSw; (try dsimp only at hSw); go_simp⟩) (by assumption) ?_
  try simp only [Act.put, List.setIfInBounds_toArray, List.set_cons_zero, List.set_cons_succ]
  refine wpAnyH_take (i := 2) (v := .pointer (some ⟨gx, 0, none⟩)) rfl (by kernel_rfl) (by kernel_rfl) (by kernel_rfl) (fun _ _ _ h => h) (Or.inl ⟨by rfl, by intro W hSw; (try dsimp only at hSw); go_simp⟩) (by assumption) ?_
  try simp only [Act.put, List.setIfInBounds_toArray, List.set_cons_zero, List.set_cons_succ]
  refine wpAnyH_take (i := 3) (v := .pointer (some ⟨gx, 0, none⟩)) rfl (by kernel_rfl) (by kernel_rfl) (by kernel_rfl) (fun _ _ _ h => h) (Or.inl ⟨by rfl, by intro W hSw; (try dsimp only at hSw); go_simp⟩) (by assumption) ?_
  try simp only [Act.put, List.setIfInBounds_toArray, List.set_cons_zero, List.set_cons_succ]
  refine wpAnyH_take (i := 5) (v := .func (.func 128) #[] #[.pointer (some ⟨w.heap.size + 1, 0, none⟩), .pointer (some ⟨w.heap.size, 0, none⟩)]) rfl (by kernel_rfl) (by kernel_rfl) (by kernel_rfl) (fun _ _ _ h => h) (Or.inl ⟨by rfl, by intro W hSw; (try dsimp only at hSw); go_simp⟩) (by assumption) ?_
  try simp only [Act.put, List.setIfInBounds_toArray, List.set_cons_zero, List.set_cons_succ]
  refine wpAnyH_take (i := 6) (v := .func (.func 102) #[] #[]) rfl (by kernel_rfl) (by kernel_rfl) (by kernel_rfl) (fun _ _ _ h => h) (Or.inl ⟨by rfl, by intro W hSw; (try dsimp only at hSw); go_simp⟩) (by assumption) ?_
  try simp only [Act.put, List.setIfInBounds_toArray, List.set_cons_zero, List.set_cons_succ]
  refine wpAnyH_ready (rs := [4]) (by kernel_rfl) (by simp) ?_
  refine AllReadyH.cons rfl (fun K' hK' => ?_) AllReadyH.nil
  go_simp
  refine hK'.out _ _ hHeld (fun hHeld => ?_)
  clear hK' K'
  try simp only [Act.put, List.setIfInBounds_toArray, List.set_cons_zero, List.set_cons_succ]
  refine wpAnyH_ready (rs := [7]) (by kernel_rfl) (by simp) ?_
  refine AllReadyH.cons rfl (fun K' hK' => ?_) AllReadyH.nil
  go_simp
  refine HCALL.out.mono ?_
  rintro e w5 ⟨v5, rfl, h5⟩
  obtain ⟨a5, n5, q5, rfl⟩ := each_shape h5
  obtain ⟨k1, k2, k3, k4⟩ := HKEEP.out w5 _ _ _ h5
  have c5 : w5.cell? ⟨gx, 0, none⟩ = some (.slice a L.length cap) := (cell_of_row k1 0).trans rfl
  have f5 := frozen_of_row w5 gx 0 _ _ k1
  have SA : w5.cell? ⟨w.heap.size + 1, 0, none⟩ = some (.pointer (some ⟨gx, 0, none⟩)) ∧ w5.cell? ⟨w.heap.size, 0, none⟩ = some (.iface ti vi) ∧ w5.cell? ⟨gb, 0, none⟩ = some (.func (.func 102) #[] #[]) := ⟨(cell_of_row k4 0).trans rfl, (cell_of_row k3 0).trans rfl, (cell_of_row k2 0).trans rfl⟩
  have SB : (w5.setCell ⟨gx, 0, none⟩ (.slice a5 n5 q5)).cell? ⟨w.heap.size + 1, 0, none⟩ = some (.pointer (some ⟨gx, 0, none⟩)) ∧ (w5.setCell ⟨gx, 0, none⟩ (.slice a5 n5 q5)).cell? ⟨w.heap.size, 0, none⟩ = some (.iface ti vi) ∧ (w5.setCell ⟨gx, 0, none⟩ (.slice a5 n5 q5)).cell? ⟨gb, 0, none⟩ = some (.func (.func 102) #[] #[]) := ⟨(World.cell?_of_block (a := ⟨w.heap.size + 1, 0, none⟩) (Below.heap_setCell _ _ _ _ (by show w.heap.size + 1 ≠ gx; omega))).trans SA.1, (World.cell?_of_block (a := ⟨w.heap.size, 0, none⟩) (Below.heap_setCell _ _ _ _ (by show w.heap.size ≠ gx; omega))).trans SA.2.1, (World.cell?_of_block (a := ⟨gb, 0, none⟩) (Below.heap_setCell _ _ _ _ (Ne.symm hxb))).trans SA.2.2⟩
  have HFF := HFIN.out _ _ _ _ h5
  clear h5 k1 k2 k3 k4 hHeld
  refine hK'.out _ _ SA (fun hHeld => ?_)
  clear hK' K'
  try simp only [Act.put, List.setIfInBounds_toArray, List.set_cons_zero, List.set_cons_succ]
  refine wpAnyH_take (i := 8) (v := .pointer (some ⟨gx, 0, none⟩)) rfl (by kernel_rfl) (by kernel_rfl) (by kernel_rfl) (fun _ _ _ h => h) (Or.inl ⟨by rfl, by intro W hSw; (try dsimp only at hSw); go_simp⟩) (by assumption) ?_
  try simp only [Act.put, List.setIfInBounds_toArray, List.set_cons_zero, List.set_cons_succ]
  refine wpAnyH_ready (rs := [9]) (by kernel_rfl) (by simp) ?_
  refine AllReadyH.cons rfl (fun K' hK' => ?_) AllReadyH.nil
  go_simp
  refine hK'.out _ _ SB (fun hHeld => ?_)
  clear hK' K'
  refine wpAnyH_done (by kernel_rfl) ?_ _
  go_end0
  exact HFF
end Go.Proofs.Ytgakidimipipeaa

namespace Go.Proofs.Ytgakidimipipeaa
open Go.RowKit Go.Sort
set_option linter.unusedVariables false
set_option linter.unusedSimpArgs false
set_option maxRecDepth 100000

theorem zeroSlot_cons : ∃ x l, zeroSlot = x :: l ∧ 1 ≤ x.width := ⟨_, _, rfl, by decide⟩
theorem zeroSlot_width : ∀ x ∈ zeroSlot, x.width ≤ 4 := by decide
theorem zeroSlot_widths : widths zeroSlot = 11 := rfl
theorem outSlot_is {b : List Nat} (hb : Bytes b) : IsFSlot (stO (.rd b) zeroSlot) := by
  have hlen : (stO (.rd b) zeroSlot).length = 4 := by rw [stO_length]; rfl
  obtain ⟨z0, g0, p0, q0⟩ := stO_rd zeroSlot b hb zeroSlot_width 0 _ rfl
  obtain ⟨z1, g1, p1, q1⟩ := stO_rd zeroSlot b hb zeroSlot_width 1 _ rfl
  obtain ⟨z2, g2, p2, q2⟩ := stO_rd zeroSlot b hb zeroSlot_width 2 _ rfl
  obtain ⟨z3, g3, p3, q3⟩ := stO_rd zeroSlot b hb zeroSlot_width 3 _ rfl
  match h : stO (.rd b) zeroSlot, hlen with
  | [a0, a1, a2, a3], _ =>
    rw [h] at g0 g1 g2 g3
    obtain rfl : a0 = ⟨.i64, 4, z0⟩ := Option.some.inj g0
    obtain rfl : a1 = ⟨.u32, 4, z1⟩ := Option.some.inj g1
    obtain rfl : a2 = ⟨.i64, 2, z2⟩ := Option.some.inj g2
    obtain rfl : a3 = ⟨.i64, 1, z3⟩ := Option.some.inj g3
    exact ⟨z0, z1, z2, z3, rfl, (by unfold I64; omega), ⟨p1, q1⟩, (by unfold I64; omega), (by unfold I64; omega)⟩
theorem itemsSlot_is {b : List Nat} (hb : Bytes b) : ∀ x ∈ itemsR zeroSlot b, IsFSlot x := by
  intro x hx
  obtain ⟨b', rfl, k⟩ := runD_mem zeroSlot b _ x hx
  exact outSlot_is (k hb)
set_option maxHeartbeats 1600000 in
theorem pwriteSlot_is {w : World} (L : List (List FldD)) (hL : ∀ x ∈ L, IsFSlot x) (hLl : L.length ≤ 60) (a : Option Addr) (cap gb : Nat) (tb : TypeId) (nb : w.heap[gb]? = some (.cells #[.func (.func 102) #[] #[]] tb (0, 0))) (hr : ReadsR w a 4 (L.map rowV)) :
    Calls Try.prog 124 #[.slice a L.length cap, .func (.func 126) #[] #[.pointer (some ⟨gb, 0, none⟩)]] w fun e w' => Below w.heap.size w w' ∧
      ((wrF L.flatten = true ∧ e = .returned (.tuple #[.slice none 0 0, .int .i64 1])) ∨ (wrF L.flatten = false ∧ ∃ v, e = .returned (.tuple #[v, .int .i64 0]) ∧ Owns w.heap.size w' v (wrB L.flatten))) := by
  have b1 := below_box w (.cells #[.slice a L.length cap] 24)
  have n1 := heap_alloc_new w (.cells #[.slice a L.length cap] 24)
  obtain ⟨w1, hw1⟩ : ∃ w1, w.alloc (.cells #[.slice a L.length cap] 24) = w1 := ⟨_, rfl⟩
  have hs1 : w1.heap.size = w.heap.size + 1 := by rw [← hw1]; simp
  rw [hw1] at b1 n1
  have hgb : gb < w.heap.size := (Array.getElem?_eq_some_iff.1 nb).1
  have b2 := below_box w1 (.cells #[.slice none 0 0, .bool false] 204)
  have hp := isPort_new w1
  have ha := fun k (hk : k < w1.heap.size) => away_new w1 hk
  obtain ⟨w2, hw2⟩ : ∃ w2, w1.alloc (.cells #[.slice none 0 0, .bool false] 204) = w2 := ⟨_, rfl⟩
  have hs2 : w2.heap.size = w.heap.size + 2 := by rw [← hw2]; simp [hs1]
  rw [hw2] at b2 hp ha
  have n2 := (b2.block w.heap.size (by omega)).trans n1
  have nb2 := (b2.block gb (by omega)).trans ((b1.block gb hgb).trans nb)
  have hr2 := (hr.below b1).below b2
  have hab : L ≠ [] → ∀ b off, a = some ⟨b, off, none⟩ → b < w2.heap.size ∧ Apart w2 (.iface 205 (.pointer (some ⟨w1.heap.size, 0, none⟩))) (.wr [] false) b := fun hne b off e => by
    obtain ⟨_, h | ⟨b', off', e', hb', _⟩⟩ := hr
    · exact absurd (List.map_eq_nil_iff.1 h) hne
    · rw [e] at e'
      cases e'
      exact ⟨by omega, (ha b (by omega)).apart⟩
  have HST := Lib.hid (restSlot_is hp L hL a cap w.heap.size gb _ tb (by decide) n2 (ha _ (by omega)) nb2 (ha _ (by omega)).apart (by omega) hr2 hab L.length (by omega) (by omega) (fits_run zeroSlot L (fun x hx => isFSlot_widths (hL x hx)) (by omega)) (left_wr zeroSlot L))
  rw [runD_wr zeroSlot L [] false L.length (Nat.le_refl _), runS_wr zeroSlot L _ L.length (Nat.le_refl _), List.take_length, stS_is] at HST
  have HA := Lib.hid ha
  have HB2 := Lib.hid (below_next b1 b2)
  clear b1 n1 b2 hp ha n2 nb nb2 hr hr2 hab
  go_enter Try.func124, Try.ntmps124
  go_wp2_with fail
  rw [hs1] at HST HA
  refine HST.out.mono ?_
  rintro e w3 ⟨rfl, v3, _, _, hp3⟩
  obtain ⟨g, v, he, hw3, ho3⟩ := hp3.port
  obtain rfl : g = w.heap.size + 1 := by cases he; rfl
  have hb3 : Below w.heap.size w w3 := by
    have hb : Below w.heap.size w2 w3 := by
      refine ⟨hp3.os, hp3.tape, hp3.output, hp3.size, fun k hk => ?_⟩
      exact hp3.block k (by omega) (HA.out k (by omega)).apart (by omega)
    exact HB2.out.trans hb
  have hon : Owns w.heap.size w3 v (wrB L.flatten) := by
    refine owns_raise ho3 fun k hk => ?_
    have h2 := hp3.away k (by omega) (HA.out k (by omega))
    exact ((away_wr ⟨hw3, ho3⟩).1 h2).2
  have c0 := cell_of_row hw3 0
  have c1 := cell_of_row hw3 1
  obtain ⟨av, lv, cpv, hv⟩ := owned_slice hon.2
  subst hv
  have HB3 := Lib.hid hb3
  have HO := Lib.hid hon
  clear hp3 hw3 ho3 hon hb3 he HST HA HB2 hw1 hw2
  cases hf : wrF L.flatten with
  | true =>
    rw [hf] at c1
    go_wp2
    go_ret2
    exact ⟨HB3.out, .inl ⟨hf, rfl⟩⟩
  | false =>
    rw [hf] at c1
    go_wp2
    go_ret2
    exact ⟨HB3.out, .inr ⟨hf, _, rfl, HO.out⟩⟩
set_option maxHeartbeats 1600000 in
theorem preadSlot_is {w : World} {b : List Nat} {a : Option Addr} {cap gb : Nat} (tb : TypeId) (nb : w.heap[gb]? = some (.cells #[.func (.func 102) #[] #[]] tb (0, 0))) (hr : Reads w a b.length b) (hc : b.length ≤ cap) (hm : cap ≤ maxLen) (hbl : b.length ≤ 1000) :
    Calls Try.prog 132 #[.slice a b.length cap, .func (.func 126) #[] #[.pointer (some ⟨gb, 0, none⟩)]] w (ReadListPost 28 4 w (itemsR zeroSlot b)) := by
  have b1 := below_box w (.cells #[.slice none 0 0] 24)
  have n1 := heap_alloc_new w (.cells #[.slice none 0 0] 24)
  obtain ⟨w1, hw1⟩ : ∃ w1, w.alloc (.cells #[.slice none 0 0] 24) = w1 := ⟨_, rfl⟩
  have hs1 : w1.heap.size = w.heap.size + 1 := by rw [← hw1]; simp
  rw [hw1] at b1 n1
  have hgb : gb < w.heap.size := (Array.getElem?_eq_some_iff.1 nb).1
  have hr1 := hr.below b1
  have b2 := below_box w1 (.cells #[.slice a b.length cap] 220)
  have hp := isPort_rd hr1 hc hm
  have hab : b ≠ [] → ∀ x, a = some x → x.block < w.heap.size := by
    intro hb x hx
    obtain ⟨_, _, h | ⟨blk, off, rfl, hlt, _⟩⟩ := hr
    · exact absurd h hb
    · cases hx; exact hlt
  have ha := away_rd_new hr1 hc hm (k := w.heap.size) (by omega) (fun hb x hx => Nat.ne_of_lt (hab hb x hx))
  have hap : ∀ k, k < w1.heap.size → Apart (w1.alloc (.cells #[.slice a b.length cap] 220)) (.iface 218 (.pointer (some ⟨w1.heap.size, 0, none⟩))) (.rd b) k := fun k hk => by
    obtain ⟨g, a', cap', he, h⟩ := hp
    obtain rfl : g = w1.heap.size := by cases he; rfl
    exact (apart_rd h).2 (by omega)
  obtain ⟨w2, hw2⟩ : ∃ w2, w1.alloc (.cells #[.slice a b.length cap] 220) = w2 := ⟨_, rfl⟩
  have hs2 : w2.heap.size = w.heap.size + 2 := by rw [← hw2]; simp [hs1]
  rw [hw2] at b2 hp ha hap
  have n2 := (b2.block w.heap.size (by omega)).trans n1
  have nb2 := (b2.block gb (by omega)).trans ((b1.block gb hgb).trans nb)
  have hK : countR zeroSlot b ≤ b.length := (rounds_spec zeroSlot_cons b.length b (Nat.le_refl _)).1
  have HST := Lib.hid (restSlot_is hp [] (by simp) none 0 w.heap.size gb _ tb (by decide) n2 ha nb2 (hap gb (by omega)) (by omega) (ReadsR.nil _ _ _) (fun h => absurd rfl h) (countR zeroSlot b) (by omega) (by simp) (fun i _ => by obtain ⟨b', e, _⟩ := runS_rd zeroSlot b i; rw [e]; trivial) (left_rd zeroSlot_cons b))
  have HAP := Lib.hid hap
  have HB2 := Lib.hid (below_next b1 b2)
  clear b1 n1 b2 hp ha n2 nb nb2 hr hr1 hab hap hK
  go_enter Try.func132, Try.ntmps132
  go_wp2_with fail
  rw [hs1] at HST HAP
  refine HST.out.mono ?_
  rintro e w3 ⟨rfl, v3, hx3, ho3, hp3⟩
  have hb3 : Below w.heap.size w w3 := by
    have hb : Below w.heap.size w2 w3 := by
      refine ⟨hp3.os, hp3.tape, hp3.output, hp3.size, fun k hk => ?_⟩
      exact hp3.block k (by omega) (HAP.out k (by omega)) (by omega)
    exact HB2.out.trans hb
  obtain ⟨a3, c3, rfl, _, _, _⟩ := ho3.reads
  have c0 := cell_of_row hx3 0
  have HB3 := Lib.hid hb3
  have HO := Lib.hid (ho3.less (show w.heap.size ≤ w2.heap.size by omega))
  obtain ⟨n3, hn3⟩ : ∃ n, (List.map rowV (runD zeroSlot [] (.rd b) (countR zeroSlot b))).length = n := ⟨_, rfl⟩
  rw [hn3] at c0 HO
  clear hp3 hx3 ho3 hb3 HST HAP HB2 hw1 hw2 hn3
  go_wp2
  go_ret
  exact ⟨HB3.out, _, rfl, HO.out⟩
end Go.Proofs.Ytgakidimipipeaa
