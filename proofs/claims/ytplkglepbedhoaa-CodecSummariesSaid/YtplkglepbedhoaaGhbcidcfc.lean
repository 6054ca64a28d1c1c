/- The laying of one Entry through a port, and of many, one behind the other (part.Each). -/
import Derived.Test.YtplkglepbedhoaaGgcbldogb
import Derived.Shelf.Abstract
namespace Go.Proofs.Ytplkglepbedhoaa
open Go.RowKit Go.Sort
set_option linter.unusedVariables false
set_option linter.unusedSimpArgs false
set_option maxRecDepth 100000

def fldEntry (z0 z1 z2 z3 : Int) : List FldD := [⟨.i64, 1, z0⟩, ⟨.u32, 2, z1⟩, ⟨.u32, 4, z2⟩, ⟨.i64, 2, z3⟩]
def IsFEntry (l : List FldD) : Prop := ∃ z0 z1 z2 z3 : Int, l = fldEntry z0 z1 z2 z3 ∧ I64 z0 ∧ (0 ≤ z1 ∧ z1 < 4294967296) ∧ (0 ≤ z2 ∧ z2 < 4294967296) ∧ I64 z3
def zeroEntry : List FldD := fldEntry 0 0 0 0
theorem zeroEntry_is : IsFEntry zeroEntry := ⟨0, 0, 0, 0, rfl, by unfold I64; omega, by omega, by omega, by unfold I64; omega⟩
theorem isFEntry_length {l : List FldD} (h : IsFEntry l) : l.length = 4 := by obtain ⟨z0, z1, z2, z3, rfl, _⟩ := h; rfl
theorem isFEntry_widths {l : List FldD} (h : IsFEntry l) : widths l = 9 := by obtain ⟨z0, z1, z2, z3, rfl, _⟩ := h; rfl
set_option maxHeartbeats 1600000 in
theorem layEntry_is {l : List FldD} {gx : Nat} {w0 w : World} {pv : Value} {S : PS} (hl : IsFEntry l) (h : LayAt l gx 163 w0 pv S 0 w) :
    Calls Try.prog 166 #[pv, .pointer (some ⟨gx, 0, none⟩)] w fun e w' => e = .returned (.tuple #[]) ∧ LayAt l gx 163 w0 pv S 4 w' := by
  obtain ⟨z0, z1, z2, z3, rfl, k0, k1, k2, k3⟩ := hl
  have H := Lib.hid h
  clear h
  go_enter Try.func166, Try.ntmps166
  go_wp2_with fail
  refine (lay_i64 (q := 1) H.out rfl k0 (by decide) (by decide)).mono ?_
  rintro e w1 ⟨rfl, h1⟩
  have H1 := Lib.hid h1
  clear h1 H
  go_wp2_with fail
  refine (lay_u32 (q := 2) H1.out rfl k1 (by decide) (by decide)).mono ?_
  rintro e w2 ⟨rfl, h2⟩
  have H2 := Lib.hid h2
  clear h2 H1
  go_wp2_with fail
  refine (lay_u32 (q := 4) H2.out rfl k2 (by decide) (by decide)).mono ?_
  rintro e w3 ⟨rfl, h3⟩
  have H3 := Lib.hid h3
  clear h3 H2
  go_wp2_with fail
  refine (lay_i64 (q := 2) H3.out rfl k3 (by decide) (by decide)).mono ?_
  rintro e w4 ⟨rfl, h4⟩
  have H4 := Lib.hid h4
  clear h4 H3
  go_wp2
  go_end0
  exact ⟨rfl, H4.out⟩
theorem infoEntry : (Try.prog.info? 163).map (fun i => (i.zero, i.size, i.bytes)) = some (some (.agg #[.int .i64 0, .int .u32 0, .int .u32 0, .int .i64 0]), 4, 24) := by kernel_rfl
set_option maxHeartbeats 1600000 in
theorem eachEntry_is {w0 : World} {pv : Value} {S0 : PS} (L : List (List FldD)) (hL : ∀ x ∈ L, IsFEntry x) (a : Option Addr) (cap : Nat) (hr : ReadsR w0 a 4 (L.map rowV)) (hap : L ≠ [] → ∀ b off, a = some ⟨b, off, none⟩ → b < w0.heap.size ∧ Apart w0 pv S0 b) (hport : IsPort w0 pv S0)
    (K : Nat) (hK : K ≤ 2000) (hLl : L.length ≤ 2000) (hfit : ∀ i, i < K → (runS zeroEntry L S0 i).fits 9) (gm : Nat) (caps : Array Value) (eg : ∀ args w, (callFunc gm args).run Try.prog w = .ok (.enter gm args) w)
    (hmore : ∀ (i : Nat) (W : World) (v : Value), i ≤ K → EachAt 163 4 w0 pv S0 W (runS zeroEntry L S0 i) v (runD zeroEntry L S0 i) → Calls Try.prog gm (#[.int .i64 (i : Int)] ++ caps) W fun e w' => e = .returned (.bool (decide (i < K))) ∧ W = w') :
    Calls Try.prog 164 #[pv, .slice a L.length cap, .func (.func gm) #[] caps, .func (.func 166) #[] #[]] w0 fun e w' => ∃ v, e = .returned v ∧ EachAt 163 4 w0 pv S0 w' (runS zeroEntry L S0 K) v (runD zeroEntry L S0 K) := by
  obtain ⟨n, hn⟩ : ∃ n, L.length = n := ⟨_, rfl⟩
  have HN := Lib.hid hn
  have HST := Lib.hid (each_start 163 4 hport)
  have HL := Lib.hid hL
  have HR := Lib.hid hr
  have HAP := Lib.hid hap
  have HF := Lib.hid hfit
  have HM := Lib.hid hmore
  rw [hn] at hLl ⊢
  clear hn hL hr hap hfit hmore hport
  go_enter Try.func164, Try.ntmps164
  go_wp2_with fail
  go_loopw [9, 10] (fun v i wr => ∃ k : Nat, k ≤ K ∧ i = .int .i64 k ∧ Hid (EachAt 163 4 w0 pv S0 wr (runS zeroEntry L S0 k) v (runD zeroEntry L S0 k))) (fun _ i _ => K - (intOf i).toNat)
  case atStart => exact ⟨0, Nat.zero_le _, rfl, HST.out⟩
  case round =>
    rename_i v9 _ _
    obtain ⟨k, hk, rfl, HE⟩ := hrel
    have hm := HM.out k wr _ hk HE.out
    by_cases hlt : k < K
    · have hd : decide (k < K) = true := decide_eq_true hlt
      rw [hd] at hm
      have HMK := Lib.hid hm
      have hfk := HF.out k hlt
      obtain ⟨S, hS⟩ : ∃ S, runS zeroEntry L S0 k = S := ⟨_, rfl⟩
      obtain ⟨Dn, hD⟩ : ∃ Dn, runD zeroEntry L S0 k = Dn := ⟨_, rfl⟩
      have hDl : Dn.length = k := by rw [← hD]; exact runD_length _ _ _ _
      have HS : Hid (runS zeroEntry L S0 (k + 1) = stS S (itemAt zeroEntry L k) ∧ runD zeroEntry L S0 (k + 1) = Dn ++ [stO S (itemAt zeroEntry L k)]) := by show _ ∧ _; rw [← hS, ← hD]; exact ⟨rfl, rfl⟩
      rw [hS] at hfk
      rw [hS, hD] at HE
      have HDL := Lib.hid hDl
      clear hm hd hS hD hDl
      have hx0 : (0 : Int) ≤ (k : Int) := by omega
      by_cases hil : k < n
      · obtain ⟨x, hx⟩ : ∃ x, L[k]? = some x := ⟨_, List.getElem?_eq_getElem (by rw [HN.out]; exact hil)⟩
        have hit : itemAt zeroEntry L k = x := itemAt_in hx
        rw [hit] at HS
        have hLne : L ≠ [] := by rintro rfl; simp at hx
        have hxi := HL.out x (List.mem_of_getElem? hx)
        have hxw := isFEntry_widths hxi
        have HXI := Lib.hid hxi
        obtain ⟨z0, z1, z2, z3, rfl, k0, k1, k2, k3⟩ := hxi
        obtain ⟨b, off, rfl, hb, hc⟩ := HR.out.row (show (L.map rowV)[k]? = some (rowV (fldEntry z0 z1 z2 z3)) by rw [List.getElem?_map, hx]; rfl)
        obtain ⟨_, hapb⟩ := HAP.out hLne b off rfl
        have hcell : ∀ (i : Nat) (u : Value), (rowV (fldEntry z0 z1 z2 z3))[i]? = some u → (wr.alloc (.cells #[.int .i64 0, .int .u32 0, .int .u32 0, .int .i64 0] 163)).cell? ⟨b, off + k * 4 + i, none⟩ = some u := fun i u hi => by
          have h1 := hc i u hi
          rw [← Nat.add_assoc] at h1
          refine ((below_box wr (.cells #[.int .i64 0, .int .u32 0, .int .u32 0, .int .i64 0] 163)).cell (p := ⟨b, off + k * 4 + i, none⟩) (Nat.lt_of_lt_of_le hb HE.out.went.size)).trans ?_
          exact (World.cell?_of_block (a := ⟨b, off + k * 4 + i, none⟩) (HE.out.went.block b hb hapb (by omega))).trans h1
        have c0 : (wr.alloc (.cells #[.int .i64 0, .int .u32 0, .int .u32 0, .int .i64 0] 163)).cell? ⟨b, off + k * 4, none⟩ = some (.int .i64 z0) := hcell 0 _ rfl
        have c1 : (wr.alloc (.cells #[.int .i64 0, .int .u32 0, .int .u32 0, .int .i64 0] 163)).cell? ⟨b, off + k * 4 + 1, none⟩ = some (.int .u32 z1) := hcell 1 _ rfl
        have c2 : (wr.alloc (.cells #[.int .i64 0, .int .u32 0, .int .u32 0, .int .i64 0] 163)).cell? ⟨b, off + k * 4 + 2, none⟩ = some (.int .u32 z2) := hcell 2 _ rfl
        have c3 : (wr.alloc (.cells #[.int .i64 0, .int .u32 0, .int .u32 0, .int .i64 0] 163)).cell? ⟨b, off + k * 4 + 3, none⟩ = some (.int .i64 z3) := hcell 3 _ rfl
        have HLAY : Hid (LayAt (fldEntry z0 z1 z2 z3) wr.heap.size 163 (wr.alloc (.cells #[.int .i64 z0, .int .u32 z1, .int .u32 z2, .int .i64 z3] 163)) pv S 0 (wr.alloc (.cells #[.int .i64 z0, .int .u32 z1, .int .u32 z2, .int .i64 z3] 163))) := Lib.hid (HE.out.lay (fldEntry z0 z1 z2 z3) (by rw [hxw]; exact hfk))
        have hx1 : (k : Int) < (n : Int) := by omega
        have HIT := Lib.hid hit
        clear hc hcell hx hit hLne hapb hb hfk hxw hil
        go_wp2_with (go_at_fn gm; refine HMK.out.mono ?_; rintro e w1 ⟨rfl, rfl⟩)
        refine (layEntry_is HXI.out HLAY.out).mono ?_
        rintro e w2 ⟨rfl, h2⟩
        obtain ⟨E2, row2, sz2⟩ := HE.out.laid (isFEntry_length HXI.out) h2
        obtain ⟨y0, y1, y2, y3, hout⟩ : ∃ y0 y1 y2 y3, stO S (fldEntry z0 z1 z2 z3) = fldEntry y0 y1 y2 y3 := ⟨_, _, _, _, rfl⟩
        rw [hout] at row2 HS
        have e0 : w2.cell? ⟨wr.heap.size, 0, none⟩ = some (.int .i64 y0) := (cell_of_row row2 0).trans rfl
        have e1 : w2.cell? ⟨wr.heap.size, 1, none⟩ = some (.int .u32 y1) := (cell_of_row row2 1).trans rfl
        have e2 : w2.cell? ⟨wr.heap.size, 2, none⟩ = some (.int .u32 y2) := (cell_of_row row2 2).trans rfl
        have e3 : w2.cell? ⟨wr.heap.size, 3, none⟩ = some (.int .i64 y3) := (cell_of_row row2 3).trans rfl
        have HE2 := Lib.hid (E2.alloc (.cells #[.int .i64 y0, .int .u32 y1, .int .u32 y2, .int .i64 y3] 163))
        have n3 : (w2.alloc (.cells #[.int .i64 y0, .int .u32 y1, .int .u32 y2, .int .i64 y3] 163)).heap[w2.heap.size]? = some (.cells (cellsF (fldEntry y0 y1 y2 y3)) 163 (0, 0)) := heap_alloc_new w2 _
        have HN3 := Lib.hid n3
        have HSZ : Hid (w0.heap.size ≤ w2.heap.size) := Lib.hid E2.went.size
        have HDL2 : Hid ((Dn.map rowV).length = k) := by show _ = _; rw [List.length_map]; exact HDL.out
        clear h2 E2 hout row2 sz2 n3
        go_wp2_with (at_builtin; refine wpList_append_row_at rfl _ _ _ rfl w0.heap.size 163 _ 4 24 Try.underlying46 infoEntry rfl (by decide) _ (Dn.map rowV) rfl HE2.out.own w2.heap.size 1 (rowV (fldEntry y0 y1 y2 y3)) rfl rfl (fun j u hj => ((cell_of_row HN3.out j).trans (cellsF_row _ j)).trans hj) (fun u hu => by simp only [fldEntry, rowV, List.map_cons, List.map_nil, List.mem_cons, List.not_mem_nil, or_false] at hu; rcases hu with rfl | rfl | rfl | rfl <;> rfl) (by rw [HDL2.out]; omega) (by rw [HDL2.out]; unfold maxLen; omega) (by simp; have := HSZ.out; omega) ?_; intro v4 w4 o4 g4 l4; have E4 := Lib.hid (HE2.out.next o4 g4 l4); clear o4 g4 l4)
        go_roundw
        case rel =>
          refine ⟨k + 1, by omega, by go_num, ?_⟩
          show EachAt _ _ _ _ _ _ _ _ _
          rw [HS.out.1, HS.out.2]
          exact E4.out
        case measure => simp [intOf]; omega
      · have hit : itemAt zeroEntry L k = zeroEntry := itemAt_out (by rw [HN.out]; omega)
        rw [hit] at HS
        have HXI := Lib.hid zeroEntry_is
        have HLAY : Hid (LayAt zeroEntry wr.heap.size 163 (wr.alloc (.cells #[.int .i64 0, .int .u32 0, .int .u32 0, .int .i64 0] 163)) pv S 0 (wr.alloc (.cells #[.int .i64 0, .int .u32 0, .int .u32 0, .int .i64 0] 163))) := Lib.hid (HE.out.lay zeroEntry (by rw [isFEntry_widths zeroEntry_is]; exact hfk))
        have hx1 : ¬ (k : Int) < (n : Int) := by omega
        clear hit hfk hil
        go_wp2_with (go_at_fn gm; refine HMK.out.mono ?_; rintro e w1 ⟨rfl, rfl⟩)
        refine (layEntry_is HXI.out HLAY.out).mono ?_
        rintro e w2 ⟨rfl, h2⟩
        obtain ⟨E2, row2, sz2⟩ := HE.out.laid (isFEntry_length HXI.out) h2
        obtain ⟨y0, y1, y2, y3, hout⟩ : ∃ y0 y1 y2 y3, stO S zeroEntry = fldEntry y0 y1 y2 y3 := ⟨_, _, _, _, rfl⟩
        rw [hout] at row2 HS
        have e0 : w2.cell? ⟨wr.heap.size, 0, none⟩ = some (.int .i64 y0) := (cell_of_row row2 0).trans rfl
        have e1 : w2.cell? ⟨wr.heap.size, 1, none⟩ = some (.int .u32 y1) := (cell_of_row row2 1).trans rfl
        have e2 : w2.cell? ⟨wr.heap.size, 2, none⟩ = some (.int .u32 y2) := (cell_of_row row2 2).trans rfl
        have e3 : w2.cell? ⟨wr.heap.size, 3, none⟩ = some (.int .i64 y3) := (cell_of_row row2 3).trans rfl
        have HE2 := Lib.hid (E2.alloc (.cells #[.int .i64 y0, .int .u32 y1, .int .u32 y2, .int .i64 y3] 163))
        have n3 : (w2.alloc (.cells #[.int .i64 y0, .int .u32 y1, .int .u32 y2, .int .i64 y3] 163)).heap[w2.heap.size]? = some (.cells (cellsF (fldEntry y0 y1 y2 y3)) 163 (0, 0)) := heap_alloc_new w2 _
        have HN3 := Lib.hid n3
        have HSZ : Hid (w0.heap.size ≤ w2.heap.size) := Lib.hid E2.went.size
        have HDL2 : Hid ((Dn.map rowV).length = k) := by show _ = _; rw [List.length_map]; exact HDL.out
        clear h2 E2 hout row2 sz2 n3
        go_wp2_with (at_builtin; refine wpList_append_row_at rfl _ _ _ rfl w0.heap.size 163 _ 4 24 Try.underlying46 infoEntry rfl (by decide) _ (Dn.map rowV) rfl HE2.out.own w2.heap.size 1 (rowV (fldEntry y0 y1 y2 y3)) rfl rfl (fun j u hj => ((cell_of_row HN3.out j).trans (cellsF_row _ j)).trans hj) (fun u hu => by simp only [fldEntry, rowV, List.map_cons, List.map_nil, List.mem_cons, List.not_mem_nil, or_false] at hu; rcases hu with rfl | rfl | rfl | rfl <;> rfl) (by rw [HDL2.out]; omega) (by rw [HDL2.out]; unfold maxLen; omega) (by simp; have := HSZ.out; omega) ?_; intro v4 w4 o4 g4 l4; have E4 := Lib.hid (HE2.out.next o4 g4 l4); clear o4 g4 l4)
        go_roundw
        case rel =>
          refine ⟨k + 1, by omega, by go_num, ?_⟩
          show EachAt _ _ _ _ _ _ _ _ _
          rw [HS.out.1, HS.out.2]
          exact E4.out
        case measure => simp [intOf]; omega
    · have hd : decide (k < K) = false := decide_eq_false hlt
      rw [hd] at hm
      obtain rfl : k = K := by omega
      have HMK := Lib.hid hm
      clear hm hd
      go_wp2_with (go_at_fn gm; refine HMK.out.mono ?_; rintro e w1 ⟨rfl, rfl⟩)
      go_ret
      exact ⟨_, rfl, HE.out⟩
end Go.Proofs.Ytplkglepbedhoaa
