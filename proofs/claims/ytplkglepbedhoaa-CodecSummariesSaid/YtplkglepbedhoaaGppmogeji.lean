/- The law CodecSummaries, walked. -/
import Derived.Test.YtplkglepbedhoaaGhfafngdi
import Derived.Test.YtplkglepbedhoaaGhibkmnbc
import Derived.Test.YtplkglepbedhoaaGbpoahfpk
import Derived.Deep.DeepCutAuto
import Derived.BigQuiet
import Derived.Lib.QuietBelow
namespace Go.Proofs.Ytplkglepbedhoaa
open Go.RowKit Go.Sort
set_option linter.unusedVariables false
set_option linter.unusedSimpArgs false
set_option maxRecDepth 100000

set_option maxHeartbeats 12800000 in
theorem codecSummaries_walk {y0 y1 : Nat} {y2 : Bool} {y3 : Int} {y4 : Nat} (L0 : List (List FldD)) (hok0 : OkD ⟨y0, y1, y2, y3, y4, L0⟩) (a : Option Addr) (cap : Nat) (hcap : L0.length ≤ cap) (a' : Option Addr) (len' cap' : Nat) (bs : List Nat) (w : World) (hra0 : ReadsR w a 4 (L0.map rowV)) (hb : Reads w a' len' bs) (hbm : len' ≤ maxLen) :
    Calls Try.prog 4 #[.agg #[.int .u64 (y0 : Nat), .int .u64 (y1 : Nat), .bool y2, .int .i64 y3, .int .u32 (y4 : Nat), .slice a L0.length cap], .slice a' len' cap'] w fun e w' => e = .returned (.bool true) ∧ Below w.heap.size w w' := by
  have hz := zero_sector
  have hzf := zero_full
  have hzc := zero_sum
  have hzr := rzero_sum
  obtain ⟨n0, hn0⟩ : ∃ n, L0.length = n := ⟨_, rfl⟩
  rw [hn0] at hcap ⊢
  obtain ⟨L, hL⟩ : ∃ L, L0.take 12 = L := ⟨_, rfl⟩
  obtain ⟨n, hn⟩ : ∃ n, L.length = n := ⟨_, rfl⟩
  have hnn : n = min 12 n0 := by rw [← hn, ← hL, List.length_take, hn0]
  have hok : OkD ⟨y0, y1, y2, y3, y4, L⟩ := by
    obtain ⟨k0, k1, k3, k4, kl⟩ := hok0
    exact ⟨k0, k1, k3, k4, fun x hx => kl x (by have hx' : x ∈ L := hx; rw [← hL] at hx'; exact List.mem_of_mem_take hx')⟩
  have hra : ReadsR w a 4 (L.map rowV) := by
    have h := hra0.takeR 12
    rw [← List.map_take, hL] at h
    exact h
  have hmk := writeD_length hok
  have hmkb := writeD_bytes hok
  have her := writeD_err ⟨y0, y1, y2, y3, y4, L⟩
  have HWR0 := fun (W : World) a c hr => write2 (w := W) (a := a) (cap := c) hok hn hr
  have HRW0 := fun (W : World) a c hr => rwrite2 (w := W) (a := a) (cap := c) hok hn (by omega) hr
  have HRB := Lib.hid (fun h0 => readSm_writeD (D := ⟨y0, y1, y2, y3, y4, L⟩) hok h0)
  obtain ⟨⟨mk, we⟩, hwe⟩ : ∃ r, writeD ⟨y0, y1, y2, y3, y4, L⟩ = r := ⟨_, rfl⟩
  rw [hwe] at hmk hmkb her HWR0 HRW0 HRB
  have HOK := Lib.hid hok
  have HLN := Lib.hid hn
  have HRA := Lib.hid hra
  have HMB := Lib.hid hmkb
  have HBS := Lib.hid hb
  have HBM := Lib.hid hbm
  have hneq := run_neq_sector mk mk hmk hmk
  rw [decide_eq_true rfl, Bool.not_true] at hneq
  obtain ⟨dC, hdc1, hdc2⟩ := row_sum
  obtain ⟨dR, hdr1, hdr2⟩ := rrow_sum
  have HDC := Lib.hid hdc1
  have HDR := Lib.hid hdr1
  have HSX : Hid ((Try.prog.info? 39).map (·.size) = some (#[.int .u64 (y0 : Nat), .int .u64 (y1 : Nat), .bool y2, .int .i64 y3, .int .u32 (y4 : Nat), .slice a n cap] : Array Value).toList.length) := Lib.hid rsize_sum
  have b0 := below_box w (.cells #[.int .u64 (y0 : Nat), .int .u64 (y1 : Nat), .bool y2, .int .i64 y3, .int .u32 (y4 : Nat), .slice a n0 cap] 39)
  have nl := heap_alloc_new w (.cells #[.int .u64 (y0 : Nat), .int .u64 (y1 : Nat), .bool y2, .int .i64 y3, .int .u32 (y4 : Nat), .slice a n0 cap] 39)
  obtain ⟨w1, hw1⟩ : ∃ x, w.alloc (.cells #[.int .u64 (y0 : Nat), .int .u64 (y1 : Nat), .bool y2, .int .i64 y3, .int .u32 (y4 : Nat), .slice a n0 cap] 39) = x := ⟨_, rfl⟩
  have hs1 : w1.heap.size = w.heap.size + 1 := by rw [← hw1]; simp
  rw [hw1] at b0 nl
  have HB1 := Lib.hid b0
  clear b0 hok hn hra hmkb hb hbm hdc1 hdr1 hwe hok0 hra0 hn0 hL
  go_enter Try.func4, Try.ntmps4
  go_wp2_with fail
  refine (awake5_true w1).mono ?_
  rintro e w2 ⟨rfl, b⟩
  have nl2 := (b.block w.heap.size (by omega)).trans nl
  have HB2 := Lib.hid (below_next HB1.out b)
  have hs2 : w.heap.size < w2.heap.size := by have := b.size; omega
  have c5 : w2.cell? ⟨w.heap.size, 5, none⟩ = some (.slice a n0 cap) := cell_of_row nl2 5
  have fz := frozen_of_row w2 w.heap.size 5 _ _ nl2
  have NL2 := Lib.hid nl2
  clear b nl hw1 hs1 HB1 nl2
  go_upto_if 19 with (fail)
  go_cut [4] (fun s wx => s = .bool false ∧ Hid (wx.heap[w.heap.size]? = some (.cells #[.int .u64 (y0 : Nat), .int .u64 (y1 : Nat), .bool y2, .int .i64 y3, .int .u32 (y4 : Nat), .slice a n cap] 39 (0, 0))) ∧ Hid (Below w.heap.size w wx) ∧ Hid (w.heap.size < wx.heap.size))
  case first =>
    by_cases h12 : 12 < n0
    · have hx : (12 : Int) < (n0 : Int) := by omega
      have hy : (12 : Int) ≤ (cap : Int) := by omega
      obtain rfl : n = 12 := by omega
      have hset := heap_setCell_same w2 w.heap.size 5 _ _ (.slice a 12 cap) NL2.out
      have HSET := Lib.hid hset
      have HBS2 := Lib.hid (below_set (g := w.heap.size) (i := 5) HB2.out (Nat.le_refl _) (.slice a 12 cap))
      clear hset hnn
      go_wp2
      go_meet
      exact ⟨rfl, HSET.out, HBS2.out, Lib.hid (by simpa [World.setCell] using hs2)⟩
    · have hx : ¬ (12 : Int) < (n0 : Int) := by omega
      obtain rfl : n0 = n := by omega
      clear hnn
      go_wp2
      go_meet
      exact ⟨rfl, NL2.out, HB2.out, hs2⟩
  case rest =>
    obtain ⟨rfl, NL, HB, HSW⟩ := hcut
    rename_i w2' _
    have nl := NL.out
    have hsw := HSW.out
    clear NL HSW c5 fz NL2 HB2 hs2
    have hn12 : n ≤ 12 := by omega
    clear hnn hcap
    rcases her with h0 | h0
    · have h0' : we = 0 := h0
      subst h0'
      have HWR := Lib.hid HWR0
      have HRW := Lib.hid HRW0
      have hrb := HRB.out rfl
      have HRD := Lib.hid (fun (W : World) => read2 mk hmk HMB.out hrb HLN.out W)
      clear HWR0 HRW0 HRB hrb h0
      have HRL := Lib.hid (row_range nl)
      go_wp2_with (refine wpList_load_mid rfl 39 _ rfl w.heap.size 0 rfl (#[.int .u64 (y0 : Nat), .int .u64 (y1 : Nat), .bool y2, .int .i64 y3, .int .u32 (y4 : Nat), .slice a n cap] : Array Value).toList dR HRL.out HDR.out hdr2 HSX.out ?_)
      clear HRL
      refine (own2 HOK.out HLN.out (by omega) (HRA.out.below HB.out)).mono ?_
      rintro e w3 ⟨b, a3, c3, rfl, hr3⟩
      have nl' := (b.block w.heap.size (by omega)).trans nl
      clear nl
      have nl := nl'
      clear nl'
      have HB0 : Hid (Below w.heap.size w w3) := HB.out.trans (b.mono HB.out.size)
      clear HB
      have HB := HB0
      clear HB0
      have hszw3 := b.size
      clear b
      go_wp2_with fail
      refine (HWR.out w3 _ _ hr3).mono ?_
      rintro e w4 ⟨rfl, b⟩
      have nl' := (b.block w.heap.size (by omega)).trans nl
      clear nl
      have nl := nl'
      clear nl'
      have HB0 : Hid (Below w.heap.size w w4) := HB.out.trans (b.mono HB.out.size)
      clear HB
      have HB := HB0
      clear HB0
      have hszw4 := b.size
      clear b
      clear hr3
      have nzA := heap_alloc_new w4 (.cells (cells noughts) 42)
      have bbA := below_box w4 (.cells (cells mk) 42)
      have nA := heap_alloc_new w4 (.cells (cells mk) 42)
      have eA := World.setRow_alloc_new w4 (cells noughts) (cells mk) 42
      obtain ⟨w5, hwA⟩ : ∃ wx, w4.alloc (.cells (cells mk) 42) = wx := ⟨_, rfl⟩
      rw [hwA] at bbA nA eA
      have hsA : w5.heap.size = w4.heap.size + 1 := by rw [← hwA]; simp
      have nl' := (bbA.block w.heap.size (by omega)).trans nl
      have HBA : Hid (Below w.heap.size w w5) := HB.out.trans (bbA.mono HB.out.size)
      clear HB
      have HB := HBA
      clear HBA bbA hwA
      clear nl
      have nl := nl'
      clear nl'
      obtain ⟨mA, hmA⟩ : ∃ m, w4.heap.size = m := ⟨_, rfl⟩
      rw [hmA] at nzA nA eA hsA
      have hleA : w.heap.size < mA := by omega
      have hltA0 : w.heap.size < mA := by omega
      have HRL := Lib.hid (row_range nl)
      go_wp2_with (first
        | (refine wpList_store_sector rfl _ _ rfl mA mk rfl rfl hmk _ _ nzA rfl ?_; rw [eA])
        | refine wpList_load_mid rfl 39 _ rfl w.heap.size 0 rfl (#[.int .u64 (y0 : Nat), .int .u64 (y1 : Nat), .bool y2, .int .i64 y3, .int .u32 (y4 : Nat), .slice a n cap] : Array Value).toList dR HRL.out HDR.out hdr2 HSX.out ?_)
      clear HRL nzA eA hmA
      refine (HRW.out w5 _ _ (HRA.out.below HB.out)).mono ?_
      rintro e w6 ⟨rfl, b⟩
      have nl' := (b.block w.heap.size (by omega)).trans nl
      clear nl
      have nl := nl'
      clear nl'
      have nA' := (b.block mA (by omega)).trans nA
      clear nA
      have nA := nA'
      clear nA'
      have HB0 : Hid (Below w.heap.size w w6) := HB.out.trans (b.mono HB.out.size)
      clear HB
      have HB := HB0
      clear HB0
      have hszw6 := b.size
      clear b
      have nzB := heap_alloc_new w6 (.cells (cells noughts) 41)
      have bbB := below_box w6 (.cells (cells mk) 41)
      have nB := heap_alloc_new w6 (.cells (cells mk) 41)
      have eB := World.setRow_alloc_new w6 (cells noughts) (cells mk) 41
      obtain ⟨w7, hwB⟩ : ∃ wx, w6.alloc (.cells (cells mk) 41) = wx := ⟨_, rfl⟩
      rw [hwB] at bbB nB eB
      have hsB : w7.heap.size = w6.heap.size + 1 := by rw [← hwB]; simp
      have nl' := (bbB.block w.heap.size (by omega)).trans nl
      have nA' := (bbB.block mA (by omega)).trans nA
      have HBB : Hid (Below w.heap.size w w7) := HB.out.trans (bbB.mono HB.out.size)
      clear HB
      have HB := HBB
      clear HBB bbB hwB
      clear nl
      have nl := nl'
      clear nl'
      clear nA
      have nA := nA'
      clear nA'
      obtain ⟨mB, hmB⟩ : ∃ m, w6.heap.size = m := ⟨_, rfl⟩
      rw [hmB] at nzB nB eB hsB
      have hleB : w.heap.size < mB := by omega
      have hltB0 : w.heap.size < mB := by omega
      have hltB1 : mA < mB := by omega
      have HCA := Lib.hid (block_cells hmk nA)
      have HCB := Lib.hid (block_cells hmk nB)
      go_wp2_with (first
        | (refine wpList_store_full rfl _ _ rfl mB mk rfl rfl hmk _ _ nzB rfl ?_; rw [eB])
        | refine wpList_load_sector rfl _ rfl mA 0 mk rfl hmk HCA.out ?_
        | refine wpList_load_full rfl _ rfl mB 0 mk rfl hmk HCB.out ?_)
      clear HCA HCB nzB eB hmB nB
      refine (HRD.out w7).mono ?_
      rintro e w8 ⟨b, a8, c8, rfl, hr8⟩
      have nl' := (b.block w.heap.size (by omega)).trans nl
      clear nl
      have nl := nl'
      clear nl'
      have nA' := (b.block mA (by omega)).trans nA
      clear nA
      have nA := nA'
      clear nA'
      have HB0 : Hid (Below w.heap.size w w8) := HB.out.trans (b.mono HB.out.size)
      clear HB
      have HB := HB0
      clear HB0
      have hszw8 := b.size
      clear b
      have nzC := heap_alloc_new w8 (.cells #[.int .u64 0, .int .u64 0, .bool false, .int .i64 0, .int .u32 0, .slice none 0 0] 48)
      have bbC := below_box w8 (.cells #[.int .u64 (y0 : Nat), .int .u64 (y1 : Nat), .bool y2, .int .i64 y3, .int .u32 (y4 : Nat), .slice a8 n c8] 48)
      have nC := heap_alloc_new w8 (.cells #[.int .u64 (y0 : Nat), .int .u64 (y1 : Nat), .bool y2, .int .i64 y3, .int .u32 (y4 : Nat), .slice a8 n c8] 48)
      have eC := World.setRow_alloc_new w8 #[.int .u64 0, .int .u64 0, .bool false, .int .i64 0, .int .u32 0, .slice none 0 0] #[.int .u64 (y0 : Nat), .int .u64 (y1 : Nat), .bool y2, .int .i64 y3, .int .u32 (y4 : Nat), .slice a8 n c8] 48
      obtain ⟨w9, hwC⟩ : ∃ wx, w8.alloc (.cells #[.int .u64 (y0 : Nat), .int .u64 (y1 : Nat), .bool y2, .int .i64 y3, .int .u32 (y4 : Nat), .slice a8 n c8] 48) = wx := ⟨_, rfl⟩
      rw [hwC] at bbC nC eC
      have hsC : w9.heap.size = w8.heap.size + 1 := by rw [← hwC]; simp
      have nl' := (bbC.block w.heap.size (by omega)).trans nl
      have nA' := (bbC.block mA (by omega)).trans nA
      have HBC : Hid (Below w.heap.size w w9) := HB.out.trans (bbC.mono HB.out.size)
      clear HB
      have HB := HBC
      clear HBC bbC
      have hwC9 := hwC
      clear hwC
      clear nl
      have nl := nl'
      clear nl'
      clear nA
      have nA := nA'
      clear nA'
      obtain ⟨mC, hmC⟩ : ∃ m, w8.heap.size = m := ⟨_, rfl⟩
      rw [hmC] at nzC nC eC hsC
      have hleC : w.heap.size < mC := by omega
      have hltC0 : w.heap.size < mC := by omega
      have hltC1 : mA < mC := by omega
      have hsC : (Try.prog.info? 48).map (·.size) = some (#[.int .u64 (y0 : Nat), .int .u64 (y1 : Nat), .bool y2, .int .i64 y3, .int .u32 (y4 : Nat), .slice a8 n c8] : Array Value).size := size_sum
      have hoC : (#[.int .u64 (y0 : Nat), .int .u64 (y1 : Nat), .bool y2, .int .i64 y3, .int .u32 (y4 : Nat), .slice a8 n c8] : Array Value).all (·.oneCell') = true := by simp [Value.oneCell']
      have HR9 := Lib.hid (hr8.below (show Below w8.heap.size w8 w9 by rw [← hwC9]; exact below_box w8 _))
      clear hwC9 hr8
      go_wp2_with (refine wpList_store_row rfl 48 _ _ rfl mC #[.int .u64 (y0 : Nat), .int .u64 (y1 : Nat), .bool y2, .int .i64 y3, .int .u32 (y4 : Nat), .slice a8 n c8] rfl rfl _ _ nzC hsC rfl hoC ?_; rw [eC])
      clear nzC eC hmC hsC hoC
      have SS := Lib.hid (fun (W : World) (h1 : W.heap[w.heap.size]? = some (.cells #[.int .u64 (y0 : Nat), .int .u64 (y1 : Nat), .bool y2, .int .i64 y3, .int .u32 (y4 : Nat), .slice a n cap] 39 (0, 0))) (h2 : W.heap[mC]? = some (.cells #[.int .u64 (y0 : Nat), .int .u64 (y1 : Nat), .bool y2, .int .i64 y3, .int .u32 (y4 : Nat), .slice a8 n c8] 48 (0, 0))) => (⟨⟨cell_of_row h1 0, cell_of_row h1 1, cell_of_row h1 2, cell_of_row h1 3, cell_of_row h1 4, cell_of_row h1 5⟩, ⟨cell_of_row h2 0, cell_of_row h2 1, cell_of_row h2 2, cell_of_row h2 3, cell_of_row h2 4, cell_of_row h2 5⟩⟩ : (W.cell? ⟨w.heap.size, 0, none⟩ = some (.int .u64 (y0 : Nat)) ∧ W.cell? ⟨w.heap.size, 1, none⟩ = some (.int .u64 (y1 : Nat)) ∧ W.cell? ⟨w.heap.size, 2, none⟩ = some (.bool y2) ∧ W.cell? ⟨w.heap.size, 3, none⟩ = some (.int .i64 y3) ∧ W.cell? ⟨w.heap.size, 4, none⟩ = some (.int .u32 (y4 : Nat)) ∧ W.cell? ⟨w.heap.size, 5, none⟩ = some (.slice a n cap)) ∧ (W.cell? ⟨mC, 0, none⟩ = some (.int .u64 (y0 : Nat)) ∧ W.cell? ⟨mC, 1, none⟩ = some (.int .u64 (y1 : Nat)) ∧ W.cell? ⟨mC, 2, none⟩ = some (.bool y2) ∧ W.cell? ⟨mC, 3, none⟩ = some (.int .i64 y3) ∧ W.cell? ⟨mC, 4, none⟩ = some (.int .u32 (y4 : Nat)) ∧ W.cell? ⟨mC, 5, none⟩ = some (.slice a8 n c8))))
      have nl0 : w9.drew.heap[w.heap.size]? = _ := nl
      have nC0 : w9.drew.heap[mC]? = _ := nC
      have HNL := Lib.hid nl0
      have HNC := Lib.hid nC0
      have HNA := Lib.hid nA
      have HRX := Lib.hid ((HRA.out.below HB.out).below (below_drew w9))
      have HR9' := Lib.hid (HR9.out.below (below_drew w9))
      clear nl0 nC0
      refine wp_region_held_drew (S := (fun W => (W.cell? ⟨w.heap.size, 0, none⟩ = some (.int .u64 (y0 : Nat)) ∧ W.cell? ⟨w.heap.size, 1, none⟩ = some (.int .u64 (y1 : Nat)) ∧ W.cell? ⟨w.heap.size, 2, none⟩ = some (.bool y2) ∧ W.cell? ⟨w.heap.size, 3, none⟩ = some (.int .i64 y3) ∧ W.cell? ⟨w.heap.size, 4, none⟩ = some (.int .u32 (y4 : Nat)) ∧ W.cell? ⟨w.heap.size, 5, none⟩ = some (.slice a n cap)) ∧ (W.cell? ⟨mC, 0, none⟩ = some (.int .u64 (y0 : Nat)) ∧ W.cell? ⟨mC, 1, none⟩ = some (.int .u64 (y1 : Nat)) ∧ W.cell? ⟨mC, 2, none⟩ = some (.bool y2) ∧ W.cell? ⟨mC, 3, none⟩ = some (.int .i64 y3) ∧ W.cell? ⟨mC, 4, none⟩ = some (.int .u32 (y4 : Nat)) ∧ W.cell? ⟨mC, 5, none⟩ = some (.slice a8 n c8)))) (by kernel_rfl) (SS.out _ HNL.out HNC.out) (fun hHeld => ?_)
      refine wpAnyH_take (i := 0) (v := .bool true) rfl (by kernel_rfl) (by kernel_rfl) (by kernel_rfl) (fun _ _ _ h => h) (Or.inl ⟨by kernel_rfl, fun wS hSw => by
        dsimp only at hSw
        obtain ⟨⟨q0, q1, q2, q3, q4, q5⟩, ⟨t0, t1, t2, t3, t4, t5⟩⟩ := hSw
        go_simp⟩) hHeld ?_
      try simp only [Act.put, List.setIfInBounds_toArray, List.set_cons_zero, List.set_cons_succ]
      refine wpAnyH_take (i := 1) (v := .bool true) rfl (by kernel_rfl) (by kernel_rfl) (by kernel_rfl) (fun _ _ _ h => h) (Or.inl ⟨by kernel_rfl, fun wS hSw => by
        dsimp only at hSw
        obtain ⟨⟨q0, q1, q2, q3, q4, q5⟩, ⟨t0, t1, t2, t3, t4, t5⟩⟩ := hSw
        go_simp⟩) hHeld ?_
      try simp only [Act.put, List.setIfInBounds_toArray, List.set_cons_zero, List.set_cons_succ]
      refine wpAnyH_take (i := 2) (v := .int .i64 0) rfl (by kernel_rfl) (by kernel_rfl) (by kernel_rfl) (fun _ _ _ h => h) (Or.inl ⟨by kernel_rfl, fun wS hSw => by
        dsimp only at hSw
        obtain ⟨⟨q0, q1, q2, q3, q4, q5⟩, ⟨t0, t1, t2, t3, t4, t5⟩⟩ := hSw
        go_simp⟩) hHeld ?_
      try simp only [Act.put, List.setIfInBounds_toArray, List.set_cons_zero, List.set_cons_succ]
      refine wpAnyH_take (i := 3) (v := .bool false) rfl (by kernel_rfl) (by kernel_rfl) (by kernel_rfl) (fun _ _ _ h => h) (Or.inl ⟨by kernel_rfl, fun wS hSw => by
        dsimp only at hSw
        obtain ⟨⟨q0, q1, q2, q3, q4, q5⟩, ⟨t0, t1, t2, t3, t4, t5⟩⟩ := hSw
        go_simp⟩) hHeld ?_
      try simp only [Act.put, List.setIfInBounds_toArray, List.set_cons_zero, List.set_cons_succ]
      refine wpAnyH_take (i := 4) (v := .bool false) rfl (by kernel_rfl) (by kernel_rfl) (by kernel_rfl) (fun _ _ _ h => h) (Or.inl ⟨by kernel_rfl, fun wS hSw => by
        dsimp only at hSw
        obtain ⟨⟨q0, q1, q2, q3, q4, q5⟩, ⟨t0, t1, t2, t3, t4, t5⟩⟩ := hSw
        go_simp⟩) hHeld ?_
      try simp only [Act.put, List.setIfInBounds_toArray, List.set_cons_zero, List.set_cons_succ]
      refine wpAnyH_take (i := 5) (v := .agg #[.int .u64 (y0 : Nat), .int .u64 (y1 : Nat), .bool y2, .int .i64 y3, .int .u32 (y4 : Nat), .slice a8 n c8]) rfl (by kernel_rfl) (by kernel_rfl) (by kernel_rfl) (fun _ _ _ h => h) (Or.inl ⟨by kernel_rfl, fun wS hSw => by
        dsimp only at hSw
        obtain ⟨⟨q0, q1, q2, q3, q4, q5⟩, ⟨t0, t1, t2, t3, t4, t5⟩⟩ := hSw
        go_simp⟩) hHeld ?_
      try simp only [Act.put, List.setIfInBounds_toArray, List.set_cons_zero, List.set_cons_succ]
      refine wpAnyH_take (i := 7) (v := .agg #[.int .u64 (y0 : Nat), .int .u64 (y1 : Nat), .bool y2, .int .i64 y3, .int .u32 (y4 : Nat), .slice a n cap]) rfl (by kernel_rfl) (by kernel_rfl) (by kernel_rfl) (fun _ _ _ h => h) (Or.inl ⟨by kernel_rfl, fun wS hSw => by
        dsimp only at hSw
        obtain ⟨⟨q0, q1, q2, q3, q4, q5⟩, ⟨t0, t1, t2, t3, t4, t5⟩⟩ := hSw
        go_simp⟩) hHeld ?_
      try simp only [Act.put, List.setIfInBounds_toArray, List.set_cons_zero, List.set_cons_succ]
      refine wpAnyH_ready (rs := [6]) (by kernel_rfl) (by simp) ?_
      refine AllReadyH.cons rfl (fun K hK => ?_) AllReadyH.nil
      go_simp
      refine (told2 HOK.out HLN.out (by omega) HR9'.out).mono ?_
      rintro e v1 ⟨b1, a9, c9, rfl, hr9⟩
      have HRT9 := Lib.hid hr9
      have HNL1 := Lib.hid ((b1.block w.heap.size (Array.getElem?_eq_some_iff.1 HNL.out).1).trans HNL.out)
      have HNC1 := Lib.hid ((b1.block mC (Array.getElem?_eq_some_iff.1 HNC.out).1).trans HNC.out)
      have HRX1 := Lib.hid (HRX.out.below b1)
      have BV1 := Lib.hid b1
      clear b1 hr9
      try dsimp only
      refine hK.out _ _ (SS.out _ HNL1.out HNC1.out) (fun hHeld2 => ?_)
      clear hK K hHeld
      have hHeld := hHeld2
      clear hHeld2
      try simp only [Act.put, List.setIfInBounds_toArray, List.set_cons_zero, List.set_cons_succ]
      refine wpAnyH_ready (rs := [8]) (by kernel_rfl) (by simp) ?_
      refine AllReadyH.cons rfl (fun K hK => ?_) AllReadyH.nil
      go_simp
      refine (same2 HOK.out HLN.out (by omega) HRT9.out HRX1.out).mono ?_
      rintro e v2 ⟨rfl, b2⟩
      have HNL2 := Lib.hid ((b2.block w.heap.size (Array.getElem?_eq_some_iff.1 HNL1.out).1).trans HNL1.out)
      have HNC2 := Lib.hid ((b2.block mC (Array.getElem?_eq_some_iff.1 HNC1.out).1).trans HNC1.out)
      have BV2 := Lib.hid b2
      clear b2
      try dsimp only
      refine hK.out _ _ (SS.out _ HNL2.out HNC2.out) (fun hHeld2 => ?_)
      clear hK K hHeld
      have hHeld := hHeld2
      clear hHeld2
      try simp only [Act.put, List.setIfInBounds_toArray, List.set_cons_zero, List.set_cons_succ]
      refine wpAnyH_take (i := 9) (v := .bool false) rfl (by kernel_rfl) (by kernel_rfl) (by kernel_rfl) (fun _ _ _ h => h) (Or.inl ⟨by kernel_rfl, fun wS hSw => by
        dsimp only at hSw
        obtain ⟨⟨q0, q1, q2, q3, q4, q5⟩, ⟨t0, t1, t2, t3, t4, t5⟩⟩ := hSw
        go_simp⟩) hHeld ?_
      try simp only [Act.put, List.setIfInBounds_toArray, List.set_cons_zero, List.set_cons_succ]
      refine wpAnyH_take (i := 10) (v := .bool false) rfl (by kernel_rfl) (by kernel_rfl) (by kernel_rfl) (fun _ _ _ h => h) (Or.inl ⟨by kernel_rfl, fun wS hSw => by
        dsimp only at hSw
        obtain ⟨⟨q0, q1, q2, q3, q4, q5⟩, ⟨t0, t1, t2, t3, t4, t5⟩⟩ := hSw
        go_simp⟩) hHeld ?_
      try simp only [Act.put, List.setIfInBounds_toArray, List.set_cons_zero, List.set_cons_succ]
      refine wpAnyH_take (i := 11) (v := .bool false) rfl (by kernel_rfl) (by kernel_rfl) (by kernel_rfl) (fun _ _ _ h => h) (Or.inl ⟨by kernel_rfl, fun wS hSw => by
        dsimp only at hSw
        obtain ⟨⟨q0, q1, q2, q3, q4, q5⟩, ⟨t0, t1, t2, t3, t4, t5⟩⟩ := hSw
        go_simp⟩) hHeld ?_
      try simp only [Act.put, List.setIfInBounds_toArray, List.set_cons_zero, List.set_cons_succ]
      refine wpAnyH_done (by kernel_rfl) ?_ _
      clear hHeld
      have b : Below w9.heap.size w9 v2 := below_next (below_next (below_drew w9) BV1.out) BV2.out
      obtain ⟨w10, hw10⟩ : ∃ x, v2 = x := ⟨_, rfl⟩
      rw [hw10] at b ⊢
      clear hw10
      have nA' := (b.block mA (by omega)).trans nA
      clear nA
      have nA := nA'
      clear nA'
      have HB0 : Hid (Below w.heap.size w w10) := HB.out.trans (b.mono HB.out.size)
      clear HB
      have HB := HB0
      clear HB0
      have hszw10 := b.size
      clear b nC nl
      have HCA := Lib.hid (block_cells hmk nA)
      go_wp2_with (refine wpList_load_sector rfl _ rfl mA 0 mk rfl hmk HCA.out ?_)
      clear HCA
      refine (turn_any mk hmk HMB.out a' len' cap' bs _ (HBS.out.below HB.out) HBM.out).mono ?_
      rintro e w11 ⟨t, ht, hbt, rfl, b⟩
      have HB0 : Hid (Below w.heap.size w w11) := HB.out.trans (b.mono HB.out.size)
      clear HB
      have HB := HB0
      clear HB0
      have hszw11 := b.size
      clear b nA
      have herr := readSm_err t
      have HYO := Lib.hid (readSm_ok hbt)
      have HYL := Lib.hid (readSm_len t)
      have HYB := Lib.hid (fun h => readSm_bad (s := t) h)
      obtain ⟨⟨⟨u0, u1, u2, u3, u4, M⟩, re⟩, hrt⟩ : ∃ r, readSm t = r := ⟨_, rfl⟩
      rw [hrt] at herr HYO HYL HYB
      obtain ⟨m, hm⟩ : ∃ m, M.length = m := ⟨_, rfl⟩
      have HRT := Lib.hid (fun (W : World) => read2 t ht hbt hrt hm W)
      have HRR := Lib.hid (fun (W : World) => rread2 t ht hbt hrt hm W)
      have HMM := Lib.hid hm
      have hm8 : m ≤ 8 := by rw [← hm]; exact HYL.out
      clear hrt hm HYL
      have nzD := heap_alloc_new w11 (.cells (cells noughts) 42)
      have bbD := below_box w11 (.cells (cells t) 42)
      have nD := heap_alloc_new w11 (.cells (cells t) 42)
      have eD := World.setRow_alloc_new w11 (cells noughts) (cells t) 42
      obtain ⟨w12, hwD⟩ : ∃ wx, w11.alloc (.cells (cells t) 42) = wx := ⟨_, rfl⟩
      rw [hwD] at bbD nD eD
      have hsD : w12.heap.size = w11.heap.size + 1 := by rw [← hwD]; simp
      have HBD : Hid (Below w.heap.size w w12) := HB.out.trans (bbD.mono HB.out.size)
      clear HB
      have HB := HBD
      clear HBD bbD hwD
      obtain ⟨mD, hmD⟩ : ∃ m, w11.heap.size = m := ⟨_, rfl⟩
      rw [hmD] at nzD nD eD hsD
      have hleD : w.heap.size < mD := by omega
      have HCD := Lib.hid (block_cells ht nD)
      go_wp2_with (first
        | (refine wpList_store_sector rfl _ _ rfl mD t rfl rfl ht _ _ nzD rfl ?_; rw [eD])
        | refine wpList_load_sector rfl _ rfl mD 0 t rfl ht HCD.out ?_)
      clear HCD nzD eD hmD
      refine (HRT.out w12).mono ?_
      rintro e w13 ⟨b, aE, cE, rfl, hrE⟩
      have nD' := (b.block mD (by omega)).trans nD
      clear nD
      have nD := nD'
      clear nD'
      have HB0 : Hid (Below w.heap.size w w13) := HB.out.trans (b.mono HB.out.size)
      clear HB
      have HB := HB0
      clear HB0
      have hszw13 := b.size
      clear b
      have nzE := heap_alloc_new w13 (.cells #[.int .u64 0, .int .u64 0, .bool false, .int .i64 0, .int .u32 0, .slice none 0 0] 48)
      have bbE := below_box w13 (.cells #[.int .u64 (u0 : Nat), .int .u64 (u1 : Nat), .bool u2, .int .i64 u3, .int .u32 (u4 : Nat), .slice aE m cE] 48)
      have nE := heap_alloc_new w13 (.cells #[.int .u64 (u0 : Nat), .int .u64 (u1 : Nat), .bool u2, .int .i64 u3, .int .u32 (u4 : Nat), .slice aE m cE] 48)
      have eE := World.setRow_alloc_new w13 #[.int .u64 0, .int .u64 0, .bool false, .int .i64 0, .int .u32 0, .slice none 0 0] #[.int .u64 (u0 : Nat), .int .u64 (u1 : Nat), .bool u2, .int .i64 u3, .int .u32 (u4 : Nat), .slice aE m cE] 48
      obtain ⟨w14, hwE⟩ : ∃ wx, w13.alloc (.cells #[.int .u64 (u0 : Nat), .int .u64 (u1 : Nat), .bool u2, .int .i64 u3, .int .u32 (u4 : Nat), .slice aE m cE] 48) = wx := ⟨_, rfl⟩
      rw [hwE] at bbE nE eE
      have hsE : w14.heap.size = w13.heap.size + 1 := by rw [← hwE]; simp
      have nD' := (bbE.block mD (by omega)).trans nD
      have HBE : Hid (Below w.heap.size w w14) := HB.out.trans (bbE.mono HB.out.size)
      clear HB
      have HB := HBE
      clear HBE bbE
      have hwE9 := hwE
      clear hwE
      clear nD
      have nD := nD'
      clear nD'
      obtain ⟨mE, hmE⟩ : ∃ m, w13.heap.size = m := ⟨_, rfl⟩
      rw [hmE] at nzE nE eE hsE
      have hleE : w.heap.size < mE := by omega
      have hltE0 : mD < mE := by omega
      have hsE0 : (Try.prog.info? 48).map (·.size) = some (#[.int .u64 (u0 : Nat), .int .u64 (u1 : Nat), .bool u2, .int .i64 u3, .int .u32 (u4 : Nat), .slice aE m cE] : Array Value).size := size_sum
      have hoE : (#[.int .u64 (u0 : Nat), .int .u64 (u1 : Nat), .bool u2, .int .i64 u3, .int .u32 (u4 : Nat), .slice aE m cE] : Array Value).all (·.oneCell') = true := by simp [Value.oneCell']
      have HRE := Lib.hid (hrE.below (show Below w13.heap.size w13 w14 by rw [← hwE9]; exact below_box w13 _))
      clear hwE9 hrE
      have HCD := Lib.hid (block_cells ht nD)
      go_wp2_with (first
        | (refine wpList_store_row rfl 48 _ _ rfl mE #[.int .u64 (u0 : Nat), .int .u64 (u1 : Nat), .bool u2, .int .i64 u3, .int .u32 (u4 : Nat), .slice aE m cE] rfl rfl _ _ nzE hsE0 rfl hoE ?_; rw [eE])
        | refine wpList_load_sector rfl _ rfl mD 0 t rfl ht HCD.out ?_)
      clear HCD nzE eE hmE hsE0 hoE
      refine (HRR.out w14).mono ?_
      rintro e w15 ⟨b, z0, z1, z2, z3, z4, k, aG, cG, rfl, hz0⟩
      have nD' := (b.block mD (by omega)).trans nD
      clear nD
      have nD := nD'
      clear nD'
      have nE' := (b.block mE (by omega)).trans nE
      clear nE
      have nE := nE'
      clear nE'
      have HB0 : Hid (Below w.heap.size w w15) := HB.out.trans (b.mono HB.out.size)
      clear HB
      have HB := HB0
      clear HB0
      have hszw15 := b.size
      have HRE5 := Lib.hid (HRE.out.below b)
      clear b HRE
      have nzG := heap_alloc_new w15 (.cells #[.int .u64 0, .int .u64 0, .bool false, .int .i64 0, .int .u32 0, .slice none 0 0] 39)
      have bbG := below_box w15 (.cells #[.int .u64 (z0 : Nat), .int .u64 (z1 : Nat), .bool z2, .int .i64 z3, .int .u32 (z4 : Nat), .slice aG k cG] 39)
      have nG := heap_alloc_new w15 (.cells #[.int .u64 (z0 : Nat), .int .u64 (z1 : Nat), .bool z2, .int .i64 z3, .int .u32 (z4 : Nat), .slice aG k cG] 39)
      have eG := World.setRow_alloc_new w15 #[.int .u64 0, .int .u64 0, .bool false, .int .i64 0, .int .u32 0, .slice none 0 0] #[.int .u64 (z0 : Nat), .int .u64 (z1 : Nat), .bool z2, .int .i64 z3, .int .u32 (z4 : Nat), .slice aG k cG] 39
      obtain ⟨w16, hwG⟩ : ∃ wx, w15.alloc (.cells #[.int .u64 (z0 : Nat), .int .u64 (z1 : Nat), .bool z2, .int .i64 z3, .int .u32 (z4 : Nat), .slice aG k cG] 39) = wx := ⟨_, rfl⟩
      rw [hwG] at bbG nG eG
      have hsG : w16.heap.size = w15.heap.size + 1 := by rw [← hwG]; simp
      have nD' := (bbG.block mD (by omega)).trans nD
      have nE' := (bbG.block mE (by omega)).trans nE
      have HBG : Hid (Below w.heap.size w w16) := HB.out.trans (bbG.mono HB.out.size)
      clear HB
      have HB := HBG
      clear HBG bbG
      have hwG9 := hwG
      clear hwG
      clear nD
      have nD := nD'
      clear nD'
      clear nE
      have nE := nE'
      clear nE'
      obtain ⟨mG, hmG⟩ : ∃ m, w15.heap.size = m := ⟨_, rfl⟩
      rw [hmG] at nzG nG eG hsG
      have hleG : w.heap.size < mG := by omega
      have hltG0 : mD < mG := by omega
      have hltG1 : mE < mG := by omega
      have hsG0 : (Try.prog.info? 39).map (·.size) = some (#[.int .u64 (z0 : Nat), .int .u64 (z1 : Nat), .bool z2, .int .i64 z3, .int .u32 (z4 : Nat), .slice aG k cG] : Array Value).size := rsize_sum
      have hoG : (#[.int .u64 (z0 : Nat), .int .u64 (z1 : Nat), .bool z2, .int .i64 z3, .int .u32 (z4 : Nat), .slice aG k cG] : Array Value).all (·.oneCell') = true := by simp [Value.oneCell']
      have bG9 : Below w15.heap.size w15 w16 := by rw [← hwG9]; exact below_box w15 _
      have HRE6 := Lib.hid (HRE5.out.below bG9)
      have HZ0 := Lib.hid hz0
      have HBG9 := Lib.hid bG9
      have hoZ : (#[.int .u64 0, .int .u64 0, .bool false, .int .i64 0, .int .u32 0, .slice none 0 0] : Array Value).all (·.oneCell') = true := by simp [Value.oneCell']
      have hsZ : (Try.prog.info? 39).map (·.size) = some (#[.int .u64 0, .int .u64 0, .bool false, .int .i64 0, .int .u32 0, .slice none 0 0] : Array Value).size := rsize_sum
      have hbz : ∀ W, (Instr.build 39 #[]).run Try.prog W = .ok (.agg #[.int .u64 0, .int .u64 0, .bool false, .int .i64 0, .int .u32 0, .slice none 0 0]) W := fun W => by kernel_rfl
      clear hwG9 hz0 bG9 HRE5
      rcases herr with rfl | rfl
      · obtain ⟨rfl, rfl, rfl, rfl, rfl, rfl, hrG⟩ := HZ0.out rfl
        have HRG := Lib.hid (hrG.below HBG9.out)
        clear hrG
        go_wp2_with (refine wpList_store_row rfl 39 _ _ rfl mG #[.int .u64 (z0 : Nat), .int .u64 (z1 : Nat), .bool z2, .int .i64 z3, .int .u32 (z4 : Nat), .slice aG k cG] rfl rfl _ _ nzG hsG0 rfl hoG ?_; rw [eG])
        have nE0 : w16.drew.heap[mE]? = _ := nE
        have nG0 : w16.drew.heap[mG]? = _ := nG
        have HRE7 := Lib.hid (HRE6.out.below (below_drew w16))
        have HRG7 := Lib.hid (HRG.out.below (below_drew w16))
        have HB7 := Lib.hid (below_next HB.out (below_drew w16))
        have SS := Lib.hid (fun (W : World) (h1 : W.heap[mE]? = some (.cells #[.int .u64 (z0 : Nat), .int .u64 (z1 : Nat), .bool z2, .int .i64 z3, .int .u32 (z4 : Nat), .slice aE k cE] 48 (0, 0))) (h2 : W.heap[mG]? = some (.cells #[.int .u64 (z0 : Nat), .int .u64 (z1 : Nat), .bool z2, .int .i64 z3, .int .u32 (z4 : Nat), .slice aG k cG] 39 (0, 0))) => (⟨⟨cell_of_row h1 0, cell_of_row h1 1, cell_of_row h1 2, cell_of_row h1 3, cell_of_row h1 4, cell_of_row h1 5⟩, ⟨cell_of_row h2 0, cell_of_row h2 1, cell_of_row h2 2, cell_of_row h2 3, cell_of_row h2 4, cell_of_row h2 5⟩⟩ : (W.cell? ⟨mE, 0, none⟩ = some (.int .u64 (z0 : Nat)) ∧ W.cell? ⟨mE, 1, none⟩ = some (.int .u64 (z1 : Nat)) ∧ W.cell? ⟨mE, 2, none⟩ = some (.bool z2) ∧ W.cell? ⟨mE, 3, none⟩ = some (.int .i64 z3) ∧ W.cell? ⟨mE, 4, none⟩ = some (.int .u32 (z4 : Nat)) ∧ W.cell? ⟨mE, 5, none⟩ = some (.slice aE k cE)) ∧ (W.cell? ⟨mG, 0, none⟩ = some (.int .u64 (z0 : Nat)) ∧ W.cell? ⟨mG, 1, none⟩ = some (.int .u64 (z1 : Nat)) ∧ W.cell? ⟨mG, 2, none⟩ = some (.bool z2) ∧ W.cell? ⟨mG, 3, none⟩ = some (.int .i64 z3) ∧ W.cell? ⟨mG, 4, none⟩ = some (.int .u32 (z4 : Nat)) ∧ W.cell? ⟨mG, 5, none⟩ = some (.slice aG k cG))))
        have HNE := Lib.hid nE0
        have HNG := Lib.hid nG0
        clear nE0 nG0
        refine wp_region_held_drew (S := (fun W => (W.cell? ⟨mE, 0, none⟩ = some (.int .u64 (z0 : Nat)) ∧ W.cell? ⟨mE, 1, none⟩ = some (.int .u64 (z1 : Nat)) ∧ W.cell? ⟨mE, 2, none⟩ = some (.bool z2) ∧ W.cell? ⟨mE, 3, none⟩ = some (.int .i64 z3) ∧ W.cell? ⟨mE, 4, none⟩ = some (.int .u32 (z4 : Nat)) ∧ W.cell? ⟨mE, 5, none⟩ = some (.slice aE k cE)) ∧ (W.cell? ⟨mG, 0, none⟩ = some (.int .u64 (z0 : Nat)) ∧ W.cell? ⟨mG, 1, none⟩ = some (.int .u64 (z1 : Nat)) ∧ W.cell? ⟨mG, 2, none⟩ = some (.bool z2) ∧ W.cell? ⟨mG, 3, none⟩ = some (.int .i64 z3) ∧ W.cell? ⟨mG, 4, none⟩ = some (.int .u32 (z4 : Nat)) ∧ W.cell? ⟨mG, 5, none⟩ = some (.slice aG k cG)))) (by kernel_rfl) (SS.out _ HNE.out HNG.out) (fun hHeld => ?_)
        refine wpAnyH_take (i := 0) (v := .agg #[.int .u64 (z0 : Nat), .int .u64 (z1 : Nat), .bool z2, .int .i64 z3, .int .u32 (z4 : Nat), .slice aE k cE]) rfl (by kernel_rfl) (by kernel_rfl) (by kernel_rfl) (fun _ _ _ h => h) (Or.inl ⟨by kernel_rfl, fun wS hSw => by
          dsimp only at hSw
          obtain ⟨⟨q0, q1, q2, q3, q4, q5⟩, ⟨t0, t1, t2, t3, t4, t5⟩⟩ := hSw
          go_simp⟩) hHeld ?_
        try simp only [Act.put, List.setIfInBounds_toArray, List.set_cons_zero, List.set_cons_succ]
        refine wpAnyH_take (i := 2) (v := .agg #[.int .u64 (z0 : Nat), .int .u64 (z1 : Nat), .bool z2, .int .i64 z3, .int .u32 (z4 : Nat), .slice aG k cG]) rfl (by kernel_rfl) (by kernel_rfl) (by kernel_rfl) (fun _ _ _ h => h) (Or.inl ⟨by kernel_rfl, fun wS hSw => by
          dsimp only at hSw
          obtain ⟨⟨q0, q1, q2, q3, q4, q5⟩, ⟨t0, t1, t2, t3, t4, t5⟩⟩ := hSw
          go_simp⟩) hHeld ?_
        try simp only [Act.put, List.setIfInBounds_toArray, List.set_cons_zero, List.set_cons_succ]
        refine wpAnyH_ready (rs := [1]) (by kernel_rfl) (by simp) ?_
        refine AllReadyH.cons rfl (fun K hK => ?_) AllReadyH.nil
        go_simp
        refine (told2 (L := M) HYO.out HMM.out (by omega) HRE7.out).mono ?_
        rintro e v1 ⟨b1, a9, c9, rfl, hr9⟩
        have HRT9 := Lib.hid hr9
        have HNE1 := Lib.hid ((b1.block mE (Array.getElem?_eq_some_iff.1 HNE.out).1).trans HNE.out)
        have HNG1 := Lib.hid ((b1.block mG (Array.getElem?_eq_some_iff.1 HNG.out).1).trans HNG.out)
        have HRG8 := Lib.hid (HRG7.out.below b1)
        have BV1 := Lib.hid b1
        clear b1 hr9
        try dsimp only
        refine hK.out _ _ (SS.out _ HNE1.out HNG1.out) (fun hHeld2 => ?_)
        clear hK K hHeld
        have hHeld := hHeld2
        clear hHeld2
        try simp only [Act.put, List.setIfInBounds_toArray, List.set_cons_zero, List.set_cons_succ]
        refine wpAnyH_ready (rs := [3]) (by kernel_rfl) (by simp) ?_
        refine AllReadyH.cons rfl (fun K hK => ?_) AllReadyH.nil
        go_simp
        refine (same2 (L := M) HYO.out HMM.out (by omega) HRT9.out HRG8.out).mono ?_
        rintro e v2 ⟨rfl, b2⟩
        have HNE2 := Lib.hid ((b2.block mE (Array.getElem?_eq_some_iff.1 HNE1.out).1).trans HNE1.out)
        have HNG2 := Lib.hid ((b2.block mG (Array.getElem?_eq_some_iff.1 HNG1.out).1).trans HNG1.out)
        have BV2 := Lib.hid b2
        clear b2
        try dsimp only
        refine hK.out _ _ (SS.out _ HNE2.out HNG2.out) (fun hHeld2 => ?_)
        clear hK K hHeld
        have hHeld := hHeld2
        clear hHeld2
        try simp only [Act.put, List.setIfInBounds_toArray, List.set_cons_zero, List.set_cons_succ]
        refine wpAnyH_take (i := 4) (v := .bool true) rfl (by kernel_rfl) (by kernel_rfl) (by kernel_rfl) (fun _ _ _ h => h) (Or.inl ⟨by kernel_rfl, fun wS hSw => by
          dsimp only at hSw
          obtain ⟨⟨q0, q1, q2, q3, q4, q5⟩, ⟨t0, t1, t2, t3, t4, t5⟩⟩ := hSw
          go_simp⟩) hHeld ?_
        try simp only [Act.put, List.setIfInBounds_toArray, List.set_cons_zero, List.set_cons_succ]
        refine wpAnyH_take (i := 5) (v := .int .i64 0) rfl (by kernel_rfl) (by kernel_rfl) (by kernel_rfl) (fun _ _ _ h => h) (Or.inl ⟨by kernel_rfl, fun wS hSw => by
          dsimp only at hSw
          obtain ⟨⟨q0, q1, q2, q3, q4, q5⟩, ⟨t0, t1, t2, t3, t4, t5⟩⟩ := hSw
          go_simp⟩) hHeld ?_
        try simp only [Act.put, List.setIfInBounds_toArray, List.set_cons_zero, List.set_cons_succ]
        refine wpAnyH_take (i := 6) (v := .bool true) rfl (by kernel_rfl) (by kernel_rfl) (by kernel_rfl) (fun _ _ _ h => h) (Or.inl ⟨by kernel_rfl, fun wS hSw => by
          dsimp only at hSw
          obtain ⟨⟨q0, q1, q2, q3, q4, q5⟩, ⟨t0, t1, t2, t3, t4, t5⟩⟩ := hSw
          go_simp⟩) hHeld ?_
        try simp only [Act.put, List.setIfInBounds_toArray, List.set_cons_zero, List.set_cons_succ]
        refine wpAnyH_take (i := 7) (v := .bool true) rfl (by kernel_rfl) (by kernel_rfl) (by kernel_rfl) (fun _ _ _ h => h) (Or.inl ⟨by kernel_rfl, fun wS hSw => by
          dsimp only at hSw
          obtain ⟨⟨q0, q1, q2, q3, q4, q5⟩, ⟨t0, t1, t2, t3, t4, t5⟩⟩ := hSw
          go_simp⟩) hHeld ?_
        try simp only [Act.put, List.setIfInBounds_toArray, List.set_cons_zero, List.set_cons_succ]
        refine wpAnyH_take (i := 8) (v := .bool true) rfl (by kernel_rfl) (by kernel_rfl) (by kernel_rfl) (fun _ _ _ h => h) (Or.inl ⟨by kernel_rfl, fun wS hSw => by
          dsimp only at hSw
          obtain ⟨⟨q0, q1, q2, q3, q4, q5⟩, ⟨t0, t1, t2, t3, t4, t5⟩⟩ := hSw
          go_simp⟩) hHeld ?_
        try simp only [Act.put, List.setIfInBounds_toArray, List.set_cons_zero, List.set_cons_succ]
        refine wpAnyH_take (i := 9) (v := .bool true) rfl (by kernel_rfl) (by kernel_rfl) (by kernel_rfl) (fun _ _ _ h => h) (Or.inl ⟨by kernel_rfl, fun wS hSw => by
          dsimp only at hSw
          obtain ⟨⟨q0, q1, q2, q3, q4, q5⟩, ⟨t0, t1, t2, t3, t4, t5⟩⟩ := hSw
          go_simp⟩) hHeld ?_
        try simp only [Act.put, List.setIfInBounds_toArray, List.set_cons_zero, List.set_cons_succ]
        refine wpAnyH_take (i := 10) (v := .bool true) rfl (by kernel_rfl) (by kernel_rfl) (by kernel_rfl) (fun _ _ _ h => h) (Or.inl ⟨by kernel_rfl, fun wS hSw => by
          dsimp only at hSw
          obtain ⟨⟨q0, q1, q2, q3, q4, q5⟩, ⟨t0, t1, t2, t3, t4, t5⟩⟩ := hSw
          go_simp⟩) hHeld ?_
        try simp only [Act.put, List.setIfInBounds_toArray, List.set_cons_zero, List.set_cons_succ]
        refine wpAnyH_take (i := 11) (v := .bool true) rfl (by kernel_rfl) (by kernel_rfl) (by kernel_rfl) (fun _ _ _ h => h) (Or.inl ⟨by kernel_rfl, fun wS hSw => by
          dsimp only at hSw
          obtain ⟨⟨q0, q1, q2, q3, q4, q5⟩, ⟨t0, t1, t2, t3, t4, t5⟩⟩ := hSw
          go_simp⟩) hHeld ?_
        try simp only [Act.put, List.setIfInBounds_toArray, List.set_cons_zero, List.set_cons_succ]
        refine wpAnyH_take (i := 12) (v := .bool true) rfl (by kernel_rfl) (by kernel_rfl) (by kernel_rfl) (fun _ _ _ h => h) (Or.inl ⟨by kernel_rfl, fun wS hSw => by
          dsimp only at hSw
          obtain ⟨⟨q0, q1, q2, q3, q4, q5⟩, ⟨t0, t1, t2, t3, t4, t5⟩⟩ := hSw
          go_simp⟩) hHeld ?_
        try simp only [Act.put, List.setIfInBounds_toArray, List.set_cons_zero, List.set_cons_succ]
        refine wpAnyH_take (i := 13) (v := undef) rfl (by kernel_rfl) (by kernel_rfl) (by kernel_rfl) (fun _ _ _ h => h) (Or.inr ⟨by kernel_rfl, rfl⟩) hHeld ?_
        try simp only [Act.put, List.setIfInBounds_toArray, List.set_cons_zero, List.set_cons_succ]
        refine wpAnyH_take (i := 14) (v := undef) rfl (by kernel_rfl) (by kernel_rfl) (by kernel_rfl) (fun _ _ _ h => h) (Or.inr ⟨by kernel_rfl, rfl⟩) hHeld ?_
        try simp only [Act.put, List.setIfInBounds_toArray, List.set_cons_zero, List.set_cons_succ]
        refine wpAnyH_take (i := 15) (v := .bool true) rfl (by kernel_rfl) (by kernel_rfl) (by kernel_rfl) (fun _ _ _ h => h) (Or.inl ⟨by kernel_rfl, fun wS hSw => by
          dsimp only at hSw
          obtain ⟨⟨q0, q1, q2, q3, q4, q5⟩, ⟨t0, t1, t2, t3, t4, t5⟩⟩ := hSw
          go_simp⟩) hHeld ?_
        try simp only [Act.put, List.setIfInBounds_toArray, List.set_cons_zero, List.set_cons_succ]
        refine wpAnyH_take (i := 16) (v := .bool true) rfl (by kernel_rfl) (by kernel_rfl) (by kernel_rfl) (fun _ _ _ h => h) (Or.inl ⟨by kernel_rfl, fun wS hSw => by
          dsimp only at hSw
          obtain ⟨⟨q0, q1, q2, q3, q4, q5⟩, ⟨t0, t1, t2, t3, t4, t5⟩⟩ := hSw
          go_simp⟩) hHeld ?_
        try simp only [Act.put, List.setIfInBounds_toArray, List.set_cons_zero, List.set_cons_succ]
        refine wpAnyH_ready (rs := [17]) (by kernel_rfl) (by simp) ?_
        refine AllReadyH.cons rfl (fun K hK => ?_) AllReadyH.nil
        go_simp
        refine hK.out _ _ (SS.out _ HNE2.out HNG2.out) (fun hHeld2 => ?_)
        clear hK K hHeld
        have hHeld := hHeld2
        clear hHeld2
        try simp only [Act.put, List.setIfInBounds_toArray, List.set_cons_zero, List.set_cons_succ]
        refine wpAnyH_done (by kernel_rfl) ?_ _
        go_wp2
        go_ret
        exact ⟨rfl, below_next (below_next HB7.out BV1.out) BV2.out⟩
      · have hze := HYB.out (by decide)
        injection hze with hze1 hze2
        unfold zeroD at hze1
        injection hze1 with i0 i1 i2 i3 i4 i5
        subst i0 i1 i2 i3 i4 i5
        obtain rfl : m = 0 := HMM.out.symm
        have hzr : w16.setRow mG #[.int .u64 0, .int .u64 0, .bool false, .int .i64 0, .int .u32 0, .slice none 0 0] = w16.setRow mG #[.int .u64 0, .int .u64 0, .bool false, .int .i64 0, .int .u32 0, .slice none 0 0] := rfl
        have nZ := setRow_heap w16 mG _ #[.int .u64 0, .int .u64 0, .bool false, .int .i64 0, .int .u32 0, .slice none 0 0] _ _ nG
        have nEZ : (w16.setRow mG #[.int .u64 0, .int .u64 0, .bool false, .int .i64 0, .int .u32 0, .slice none 0 0]).heap[mE]? = _ := (setRow_other w16 mG mE #[.int .u64 0, .int .u64 0, .bool false, .int .i64 0, .int .u32 0, .slice none 0 0] (by omega)).trans nE
        have HBZ := Lib.hid (below_setRow (g := mG) HB.out (by omega) #[.int .u64 0, .int .u64 0, .bool false, .int .i64 0, .int .u32 0, .slice none 0 0])
        go_wp2_with (first
          | (refine wpList_store_row rfl 39 _ _ rfl mG #[.int .u64 (z0 : Nat), .int .u64 (z1 : Nat), .bool z2, .int .i64 z3, .int .u32 (z4 : Nat), .slice aG k cG] rfl rfl _ _ nzG hsG0 rfl hoG ?_; rw [eG])
          | refine wpList_store_row rfl 39 _ _ rfl mG #[.int .u64 0, .int .u64 0, .bool false, .int .i64 0, .int .u32 0, .slice none 0 0] rfl rfl _ _ nG hsZ rfl hoZ ?_)
        have nE0 : (w16.setRow mG #[.int .u64 0, .int .u64 0, .bool false, .int .i64 0, .int .u32 0, .slice none 0 0]).drew.heap[mE]? = _ := nEZ
        have nG0 : (w16.setRow mG #[.int .u64 0, .int .u64 0, .bool false, .int .i64 0, .int .u32 0, .slice none 0 0]).drew.heap[mG]? = _ := nZ
        have HRE7 := Lib.hid (ReadsR.nil (w16.setRow mG #[.int .u64 0, .int .u64 0, .bool false, .int .i64 0, .int .u32 0, .slice none 0 0]).drew aE 4)
        have HRG7 := Lib.hid (ReadsR.nil (w16.setRow mG #[.int .u64 0, .int .u64 0, .bool false, .int .i64 0, .int .u32 0, .slice none 0 0]).drew none 4)
        have HB7 := Lib.hid (below_next HBZ.out (below_drew (w16.setRow mG #[.int .u64 0, .int .u64 0, .bool false, .int .i64 0, .int .u32 0, .slice none 0 0])))
        have SS := Lib.hid (fun (W : World) (h1 : W.heap[mE]? = some (.cells #[.int .u64 0, .int .u64 0, .bool false, .int .i64 0, .int .u32 0, .slice aE 0 cE] 48 (0, 0))) (h2 : W.heap[mG]? = some (.cells #[.int .u64 0, .int .u64 0, .bool false, .int .i64 0, .int .u32 0, .slice none 0 0] 39 (0, 0))) => (⟨⟨cell_of_row h1 0, cell_of_row h1 1, cell_of_row h1 2, cell_of_row h1 3, cell_of_row h1 4, cell_of_row h1 5⟩, ⟨cell_of_row h2 0, cell_of_row h2 1, cell_of_row h2 2, cell_of_row h2 3, cell_of_row h2 4, cell_of_row h2 5⟩⟩ : (W.cell? ⟨mE, 0, none⟩ = some (.int .u64 0) ∧ W.cell? ⟨mE, 1, none⟩ = some (.int .u64 0) ∧ W.cell? ⟨mE, 2, none⟩ = some (.bool false) ∧ W.cell? ⟨mE, 3, none⟩ = some (.int .i64 0) ∧ W.cell? ⟨mE, 4, none⟩ = some (.int .u32 0) ∧ W.cell? ⟨mE, 5, none⟩ = some (.slice aE 0 cE)) ∧ (W.cell? ⟨mG, 0, none⟩ = some (.int .u64 0) ∧ W.cell? ⟨mG, 1, none⟩ = some (.int .u64 0) ∧ W.cell? ⟨mG, 2, none⟩ = some (.bool false) ∧ W.cell? ⟨mG, 3, none⟩ = some (.int .i64 0) ∧ W.cell? ⟨mG, 4, none⟩ = some (.int .u32 0) ∧ W.cell? ⟨mG, 5, none⟩ = some (.slice none 0 0))))
        have HNE := Lib.hid nE0
        have HNG := Lib.hid nG0
        clear nE0 nG0
        refine wp_region_held_drew (S := (fun W => (W.cell? ⟨mE, 0, none⟩ = some (.int .u64 0) ∧ W.cell? ⟨mE, 1, none⟩ = some (.int .u64 0) ∧ W.cell? ⟨mE, 2, none⟩ = some (.bool false) ∧ W.cell? ⟨mE, 3, none⟩ = some (.int .i64 0) ∧ W.cell? ⟨mE, 4, none⟩ = some (.int .u32 0) ∧ W.cell? ⟨mE, 5, none⟩ = some (.slice aE 0 cE)) ∧ (W.cell? ⟨mG, 0, none⟩ = some (.int .u64 0) ∧ W.cell? ⟨mG, 1, none⟩ = some (.int .u64 0) ∧ W.cell? ⟨mG, 2, none⟩ = some (.bool false) ∧ W.cell? ⟨mG, 3, none⟩ = some (.int .i64 0) ∧ W.cell? ⟨mG, 4, none⟩ = some (.int .u32 0) ∧ W.cell? ⟨mG, 5, none⟩ = some (.slice none 0 0)))) (by kernel_rfl) (SS.out _ HNE.out HNG.out) (fun hHeld => ?_)
        refine wpAnyH_take (i := 0) (v := .agg #[.int .u64 0, .int .u64 0, .bool false, .int .i64 0, .int .u32 0, .slice aE 0 cE]) rfl (by kernel_rfl) (by kernel_rfl) (by kernel_rfl) (fun _ _ _ h => h) (Or.inl ⟨by kernel_rfl, fun wS hSw => by
          dsimp only at hSw
          obtain ⟨⟨q0, q1, q2, q3, q4, q5⟩, ⟨t0, t1, t2, t3, t4, t5⟩⟩ := hSw
          go_simp⟩) hHeld ?_
        try simp only [Act.put, List.setIfInBounds_toArray, List.set_cons_zero, List.set_cons_succ]
        refine wpAnyH_take (i := 2) (v := .agg #[.int .u64 0, .int .u64 0, .bool false, .int .i64 0, .int .u32 0, .slice none 0 0]) rfl (by kernel_rfl) (by kernel_rfl) (by kernel_rfl) (fun _ _ _ h => h) (Or.inl ⟨by kernel_rfl, fun wS hSw => by
          dsimp only at hSw
          obtain ⟨⟨q0, q1, q2, q3, q4, q5⟩, ⟨t0, t1, t2, t3, t4, t5⟩⟩ := hSw
          go_simp⟩) hHeld ?_
        try simp only [Act.put, List.setIfInBounds_toArray, List.set_cons_zero, List.set_cons_succ]
        refine wpAnyH_ready (rs := [1]) (by kernel_rfl) (by simp) ?_
        refine AllReadyH.cons rfl (fun K hK => ?_) AllReadyH.nil
        go_simp
        refine (told2 (L := ([] : List (List FldD))) HYO.out HMM.out (by omega) HRE7.out).mono ?_
        rintro e v1 ⟨b1, a9, c9, rfl, hr9⟩
        have HRT9 := Lib.hid hr9
        have HNE1 := Lib.hid ((b1.block mE (Array.getElem?_eq_some_iff.1 HNE.out).1).trans HNE.out)
        have HNG1 := Lib.hid ((b1.block mG (Array.getElem?_eq_some_iff.1 HNG.out).1).trans HNG.out)
        have HRG8 := Lib.hid (HRG7.out.below b1)
        have BV1 := Lib.hid b1
        clear b1 hr9
        try dsimp only
        refine hK.out _ _ (SS.out _ HNE1.out HNG1.out) (fun hHeld2 => ?_)
        clear hK K hHeld
        have hHeld := hHeld2
        clear hHeld2
        try simp only [Act.put, List.setIfInBounds_toArray, List.set_cons_zero, List.set_cons_succ]
        refine wpAnyH_ready (rs := [3]) (by kernel_rfl) (by simp) ?_
        refine AllReadyH.cons rfl (fun K hK => ?_) AllReadyH.nil
        go_simp
        refine (same2 (L := ([] : List (List FldD))) HYO.out HMM.out (by omega) HRT9.out HRG8.out).mono ?_
        rintro e v2 ⟨rfl, b2⟩
        have HNE2 := Lib.hid ((b2.block mE (Array.getElem?_eq_some_iff.1 HNE1.out).1).trans HNE1.out)
        have HNG2 := Lib.hid ((b2.block mG (Array.getElem?_eq_some_iff.1 HNG1.out).1).trans HNG1.out)
        have BV2 := Lib.hid b2
        clear b2
        try dsimp only
        refine hK.out _ _ (SS.out _ HNE2.out HNG2.out) (fun hHeld2 => ?_)
        clear hK K hHeld
        have hHeld := hHeld2
        clear hHeld2
        try simp only [Act.put, List.setIfInBounds_toArray, List.set_cons_zero, List.set_cons_succ]
        refine wpAnyH_take (i := 4) (v := .bool true) rfl (by kernel_rfl) (by kernel_rfl) (by kernel_rfl) (fun _ _ _ h => h) (Or.inl ⟨by kernel_rfl, fun wS hSw => by
          dsimp only at hSw
          obtain ⟨⟨q0, q1, q2, q3, q4, q5⟩, ⟨t0, t1, t2, t3, t4, t5⟩⟩ := hSw
          go_simp⟩) hHeld ?_
        try simp only [Act.put, List.setIfInBounds_toArray, List.set_cons_zero, List.set_cons_succ]
        refine wpAnyH_take (i := 5) (v := .int .i64 21) rfl (by kernel_rfl) (by kernel_rfl) (by kernel_rfl) (fun _ _ _ h => h) (Or.inl ⟨by kernel_rfl, fun wS hSw => by
          dsimp only at hSw
          obtain ⟨⟨q0, q1, q2, q3, q4, q5⟩, ⟨t0, t1, t2, t3, t4, t5⟩⟩ := hSw
          go_simp⟩) hHeld ?_
        try simp only [Act.put, List.setIfInBounds_toArray, List.set_cons_zero, List.set_cons_succ]
        refine wpAnyH_take (i := 6) (v := .bool false) rfl (by kernel_rfl) (by kernel_rfl) (by kernel_rfl) (fun _ _ _ h => h) (Or.inl ⟨by kernel_rfl, fun wS hSw => by
          dsimp only at hSw
          obtain ⟨⟨q0, q1, q2, q3, q4, q5⟩, ⟨t0, t1, t2, t3, t4, t5⟩⟩ := hSw
          go_simp⟩) hHeld ?_
        try simp only [Act.put, List.setIfInBounds_toArray, List.set_cons_zero, List.set_cons_succ]
        refine wpAnyH_take (i := 7) (v := .bool false) rfl (by kernel_rfl) (by kernel_rfl) (by kernel_rfl) (fun _ _ _ h => h) (Or.inl ⟨by kernel_rfl, fun wS hSw => by
          dsimp only at hSw
          obtain ⟨⟨q0, q1, q2, q3, q4, q5⟩, ⟨t0, t1, t2, t3, t4, t5⟩⟩ := hSw
          go_simp⟩) hHeld ?_
        try simp only [Act.put, List.setIfInBounds_toArray, List.set_cons_zero, List.set_cons_succ]
        refine wpAnyH_take (i := 8) (v := .bool true) rfl (by kernel_rfl) (by kernel_rfl) (by kernel_rfl) (fun _ _ _ h => h) (Or.inl ⟨by kernel_rfl, fun wS hSw => by
          dsimp only at hSw
          obtain ⟨⟨q0, q1, q2, q3, q4, q5⟩, ⟨t0, t1, t2, t3, t4, t5⟩⟩ := hSw
          go_simp⟩) hHeld ?_
        try simp only [Act.put, List.setIfInBounds_toArray, List.set_cons_zero, List.set_cons_succ]
        refine wpAnyH_take (i := 9) (v := .bool true) rfl (by kernel_rfl) (by kernel_rfl) (by kernel_rfl) (fun _ _ _ h => h) (Or.inl ⟨by kernel_rfl, fun wS hSw => by
          dsimp only at hSw
          obtain ⟨⟨q0, q1, q2, q3, q4, q5⟩, ⟨t0, t1, t2, t3, t4, t5⟩⟩ := hSw
          go_simp⟩) hHeld ?_
        try simp only [Act.put, List.setIfInBounds_toArray, List.set_cons_zero, List.set_cons_succ]
        refine wpAnyH_take (i := 10) (v := .bool true) rfl (by kernel_rfl) (by kernel_rfl) (by kernel_rfl) (fun _ _ _ h => h) (Or.inl ⟨by kernel_rfl, fun wS hSw => by
          dsimp only at hSw
          obtain ⟨⟨q0, q1, q2, q3, q4, q5⟩, ⟨t0, t1, t2, t3, t4, t5⟩⟩ := hSw
          go_simp⟩) hHeld ?_
        try simp only [Act.put, List.setIfInBounds_toArray, List.set_cons_zero, List.set_cons_succ]
        refine wpAnyH_take (i := 11) (v := .bool false) rfl (by kernel_rfl) (by kernel_rfl) (by kernel_rfl) (fun _ _ _ h => h) (Or.inl ⟨by kernel_rfl, fun wS hSw => by
          dsimp only at hSw
          obtain ⟨⟨q0, q1, q2, q3, q4, q5⟩, ⟨t0, t1, t2, t3, t4, t5⟩⟩ := hSw
          go_simp⟩) hHeld ?_
        try simp only [Act.put, List.setIfInBounds_toArray, List.set_cons_zero, List.set_cons_succ]
        refine wpAnyH_take (i := 12) (v := .bool false) rfl (by kernel_rfl) (by kernel_rfl) (by kernel_rfl) (fun _ _ _ h => h) (Or.inl ⟨by kernel_rfl, fun wS hSw => by
          dsimp only at hSw
          obtain ⟨⟨q0, q1, q2, q3, q4, q5⟩, ⟨t0, t1, t2, t3, t4, t5⟩⟩ := hSw
          go_simp⟩) hHeld ?_
        try simp only [Act.put, List.setIfInBounds_toArray, List.set_cons_zero, List.set_cons_succ]
        refine wpAnyH_take (i := 13) (v := .int .i64 21) rfl (by kernel_rfl) (by kernel_rfl) (by kernel_rfl) (fun _ _ _ h => h) (Or.inl ⟨by kernel_rfl, fun wS hSw => by
          dsimp only at hSw
          obtain ⟨⟨q0, q1, q2, q3, q4, q5⟩, ⟨t0, t1, t2, t3, t4, t5⟩⟩ := hSw
          go_simp⟩) hHeld ?_
        try simp only [Act.put, List.setIfInBounds_toArray, List.set_cons_zero, List.set_cons_succ]
        refine wpAnyH_take (i := 14) (v := .bool true) rfl (by kernel_rfl) (by kernel_rfl) (by kernel_rfl) (fun _ _ _ h => h) (Or.inl ⟨by kernel_rfl, fun wS hSw => by
          dsimp only at hSw
          obtain ⟨⟨q0, q1, q2, q3, q4, q5⟩, ⟨t0, t1, t2, t3, t4, t5⟩⟩ := hSw
          go_simp⟩) hHeld ?_
        try simp only [Act.put, List.setIfInBounds_toArray, List.set_cons_zero, List.set_cons_succ]
        refine wpAnyH_take (i := 15) (v := .bool true) rfl (by kernel_rfl) (by kernel_rfl) (by kernel_rfl) (fun _ _ _ h => h) (Or.inl ⟨by kernel_rfl, fun wS hSw => by
          dsimp only at hSw
          obtain ⟨⟨q0, q1, q2, q3, q4, q5⟩, ⟨t0, t1, t2, t3, t4, t5⟩⟩ := hSw
          go_simp⟩) hHeld ?_
        try simp only [Act.put, List.setIfInBounds_toArray, List.set_cons_zero, List.set_cons_succ]
        refine wpAnyH_take (i := 16) (v := .bool true) rfl (by kernel_rfl) (by kernel_rfl) (by kernel_rfl) (fun _ _ _ h => h) (Or.inl ⟨by kernel_rfl, fun wS hSw => by
          dsimp only at hSw
          obtain ⟨⟨q0, q1, q2, q3, q4, q5⟩, ⟨t0, t1, t2, t3, t4, t5⟩⟩ := hSw
          go_simp⟩) hHeld ?_
        try simp only [Act.put, List.setIfInBounds_toArray, List.set_cons_zero, List.set_cons_succ]
        refine wpAnyH_ready (rs := [17]) (by kernel_rfl) (by simp) ?_
        refine AllReadyH.cons rfl (fun K hK => ?_) AllReadyH.nil
        go_simp
        refine hK.out _ _ (SS.out _ HNE2.out HNG2.out) (fun hHeld2 => ?_)
        clear hK K hHeld
        have hHeld := hHeld2
        clear hHeld2
        try simp only [Act.put, List.setIfInBounds_toArray, List.set_cons_zero, List.set_cons_succ]
        refine wpAnyH_done (by kernel_rfl) ?_ _
        go_wp2
        go_ret
        exact ⟨rfl, below_next (below_next HB7.out BV1.out) BV2.out⟩

    · have h0' : we = 1 := h0
      subst h0'
      have HWR := Lib.hid HWR0
      have HRW := Lib.hid HRW0
      obtain ⟨⟨⟨x0, x1, x2, x3, x4, LX⟩, rx⟩, hrx⟩ : ∃ r, readSm mk = r := ⟨_, rfl⟩
      obtain ⟨nx, hnx⟩ : ∃ n, LX.length = n := ⟨_, rfl⟩
      have HRD := Lib.hid (fun (W : World) => read2 mk hmk HMB.out hrx hnx W)
      clear HWR0 HRW0 HRB h0 hrx
      have HRL := Lib.hid (row_range nl)
      go_wp2_with (refine wpList_load_mid rfl 39 _ rfl w.heap.size 0 rfl (#[.int .u64 (y0 : Nat), .int .u64 (y1 : Nat), .bool y2, .int .i64 y3, .int .u32 (y4 : Nat), .slice a n cap] : Array Value).toList dR HRL.out HDR.out hdr2 HSX.out ?_)
      clear HRL
      refine (own2 HOK.out HLN.out (by omega) (HRA.out.below HB.out)).mono ?_
      rintro e w3 ⟨b, a3, c3, rfl, hr3⟩
      have nl' := (b.block w.heap.size (by omega)).trans nl
      clear nl
      have nl := nl'
      clear nl'
      have HB0 : Hid (Below w.heap.size w w3) := HB.out.trans (b.mono HB.out.size)
      clear HB
      have HB := HB0
      clear HB0
      have hszw3 := b.size
      clear b
      go_wp2_with fail
      refine (HWR.out w3 _ _ hr3).mono ?_
      rintro e w4 ⟨rfl, b⟩
      have nl' := (b.block w.heap.size (by omega)).trans nl
      clear nl
      have nl := nl'
      clear nl'
      have HB0 : Hid (Below w.heap.size w w4) := HB.out.trans (b.mono HB.out.size)
      clear HB
      have HB := HB0
      clear HB0
      have hszw4 := b.size
      clear b
      clear hr3
      have nzA := heap_alloc_new w4 (.cells (cells noughts) 42)
      have bbA := below_box w4 (.cells (cells mk) 42)
      have nA := heap_alloc_new w4 (.cells (cells mk) 42)
      have eA := World.setRow_alloc_new w4 (cells noughts) (cells mk) 42
      obtain ⟨w5, hwA⟩ : ∃ wx, w4.alloc (.cells (cells mk) 42) = wx := ⟨_, rfl⟩
      rw [hwA] at bbA nA eA
      have hsA : w5.heap.size = w4.heap.size + 1 := by rw [← hwA]; simp
      have nl' := (bbA.block w.heap.size (by omega)).trans nl
      have HBA : Hid (Below w.heap.size w w5) := HB.out.trans (bbA.mono HB.out.size)
      clear HB
      have HB := HBA
      clear HBA bbA hwA
      clear nl
      have nl := nl'
      clear nl'
      obtain ⟨mA, hmA⟩ : ∃ m, w4.heap.size = m := ⟨_, rfl⟩
      rw [hmA] at nzA nA eA hsA
      have hleA : w.heap.size < mA := by omega
      have hltA0 : w.heap.size < mA := by omega
      have HRL := Lib.hid (row_range nl)
      go_wp2_with (first
        | (refine wpList_store_sector rfl _ _ rfl mA mk rfl rfl hmk _ _ nzA rfl ?_; rw [eA])
        | refine wpList_load_mid rfl 39 _ rfl w.heap.size 0 rfl (#[.int .u64 (y0 : Nat), .int .u64 (y1 : Nat), .bool y2, .int .i64 y3, .int .u32 (y4 : Nat), .slice a n cap] : Array Value).toList dR HRL.out HDR.out hdr2 HSX.out ?_)
      clear HRL nzA eA hmA
      refine (HRW.out w5 _ _ (HRA.out.below HB.out)).mono ?_
      rintro e w6 ⟨rfl, b⟩
      have nl' := (b.block w.heap.size (by omega)).trans nl
      clear nl
      have nl := nl'
      clear nl'
      have nA' := (b.block mA (by omega)).trans nA
      clear nA
      have nA := nA'
      clear nA'
      have HB0 : Hid (Below w.heap.size w w6) := HB.out.trans (b.mono HB.out.size)
      clear HB
      have HB := HB0
      clear HB0
      have hszw6 := b.size
      clear b
      have nzB := heap_alloc_new w6 (.cells (cells noughts) 41)
      have bbB := below_box w6 (.cells (cells mk) 41)
      have nB := heap_alloc_new w6 (.cells (cells mk) 41)
      have eB := World.setRow_alloc_new w6 (cells noughts) (cells mk) 41
      obtain ⟨w7, hwB⟩ : ∃ wx, w6.alloc (.cells (cells mk) 41) = wx := ⟨_, rfl⟩
      rw [hwB] at bbB nB eB
      have hsB : w7.heap.size = w6.heap.size + 1 := by rw [← hwB]; simp
      have nl' := (bbB.block w.heap.size (by omega)).trans nl
      have nA' := (bbB.block mA (by omega)).trans nA
      have HBB : Hid (Below w.heap.size w w7) := HB.out.trans (bbB.mono HB.out.size)
      clear HB
      have HB := HBB
      clear HBB bbB hwB
      clear nl
      have nl := nl'
      clear nl'
      clear nA
      have nA := nA'
      clear nA'
      obtain ⟨mB, hmB⟩ : ∃ m, w6.heap.size = m := ⟨_, rfl⟩
      rw [hmB] at nzB nB eB hsB
      have hleB : w.heap.size < mB := by omega
      have hltB0 : w.heap.size < mB := by omega
      have hltB1 : mA < mB := by omega
      have HCA := Lib.hid (block_cells hmk nA)
      have HCB := Lib.hid (block_cells hmk nB)
      go_wp2_with (first
        | (refine wpList_store_full rfl _ _ rfl mB mk rfl rfl hmk _ _ nzB rfl ?_; rw [eB])
        | refine wpList_load_sector rfl _ rfl mA 0 mk rfl hmk HCA.out ?_
        | refine wpList_load_full rfl _ rfl mB 0 mk rfl hmk HCB.out ?_)
      clear HCA HCB nzB eB hmB nB
      refine (HRD.out w7).mono ?_
      rintro e w8 ⟨b, a8, c8, rfl, hr8⟩
      have nl' := (b.block w.heap.size (by omega)).trans nl
      clear nl
      have nl := nl'
      clear nl'
      have nA' := (b.block mA (by omega)).trans nA
      clear nA
      have nA := nA'
      clear nA'
      have HB0 : Hid (Below w.heap.size w w8) := HB.out.trans (b.mono HB.out.size)
      clear HB
      have HB := HB0
      clear HB0
      have hszw8 := b.size
      clear b
      have nzC := heap_alloc_new w8 (.cells #[.int .u64 0, .int .u64 0, .bool false, .int .i64 0, .int .u32 0, .slice none 0 0] 48)
      have bbC := below_box w8 (.cells #[.int .u64 (x0 : Nat), .int .u64 (x1 : Nat), .bool x2, .int .i64 x3, .int .u32 (x4 : Nat), .slice a8 nx c8] 48)
      have nC := heap_alloc_new w8 (.cells #[.int .u64 (x0 : Nat), .int .u64 (x1 : Nat), .bool x2, .int .i64 x3, .int .u32 (x4 : Nat), .slice a8 nx c8] 48)
      have eC := World.setRow_alloc_new w8 #[.int .u64 0, .int .u64 0, .bool false, .int .i64 0, .int .u32 0, .slice none 0 0] #[.int .u64 (x0 : Nat), .int .u64 (x1 : Nat), .bool x2, .int .i64 x3, .int .u32 (x4 : Nat), .slice a8 nx c8] 48
      obtain ⟨w9, hwC⟩ : ∃ wx, w8.alloc (.cells #[.int .u64 (x0 : Nat), .int .u64 (x1 : Nat), .bool x2, .int .i64 x3, .int .u32 (x4 : Nat), .slice a8 nx c8] 48) = wx := ⟨_, rfl⟩
      rw [hwC] at bbC nC eC
      have hsC : w9.heap.size = w8.heap.size + 1 := by rw [← hwC]; simp
      have nl' := (bbC.block w.heap.size (by omega)).trans nl
      have nA' := (bbC.block mA (by omega)).trans nA
      have HBC : Hid (Below w.heap.size w w9) := HB.out.trans (bbC.mono HB.out.size)
      clear HB
      have HB := HBC
      clear HBC bbC
      have hwC9 := hwC
      clear hwC
      clear nl
      have nl := nl'
      clear nl'
      clear nA
      have nA := nA'
      clear nA'
      obtain ⟨mC, hmC⟩ : ∃ m, w8.heap.size = m := ⟨_, rfl⟩
      rw [hmC] at nzC nC eC hsC
      have hleC : w.heap.size < mC := by omega
      have hltC0 : w.heap.size < mC := by omega
      have hltC1 : mA < mC := by omega
      have hsC : (Try.prog.info? 48).map (·.size) = some (#[.int .u64 (x0 : Nat), .int .u64 (x1 : Nat), .bool x2, .int .i64 x3, .int .u32 (x4 : Nat), .slice a8 nx c8] : Array Value).size := size_sum
      have hoC : (#[.int .u64 (x0 : Nat), .int .u64 (x1 : Nat), .bool x2, .int .i64 x3, .int .u32 (x4 : Nat), .slice a8 nx c8] : Array Value).all (·.oneCell') = true := by simp [Value.oneCell']
      have HR9 := Lib.hid (hr8.below (show Below w8.heap.size w8 w9 by rw [← hwC9]; exact below_box w8 _))
      clear hwC9 hr8
      go_wp2_with (refine wpList_store_row rfl 48 _ _ rfl mC #[.int .u64 (x0 : Nat), .int .u64 (x1 : Nat), .bool x2, .int .i64 x3, .int .u32 (x4 : Nat), .slice a8 nx c8] rfl rfl _ _ nzC hsC rfl hoC ?_; rw [eC])
      clear nzC eC hmC hsC hoC
      refine wp_region_quiet_below (by kernel_rfl) (by kernel_rfl) ?_
      repeat (go_big_quiet_step (fail))
      refine wpQuiet_nil (regrown_name fun w10 b => ?_)
      have nA' := (b.block mA (by omega)).trans nA
      clear nA
      have nA := nA'
      clear nA'
      have HB0 : Hid (Below w.heap.size w w10) := HB.out.trans (b.mono HB.out.size)
      clear HB
      have HB := HB0
      clear HB0
      have hszw10 := b.size
      clear b nC nl
      have HCA := Lib.hid (block_cells hmk nA)
      go_wp2_with (refine wpList_load_sector rfl _ rfl mA 0 mk rfl hmk HCA.out ?_)
      clear HCA
      refine (turn_any mk hmk HMB.out a' len' cap' bs _ (HBS.out.below HB.out) HBM.out).mono ?_
      rintro e w11 ⟨t, ht, hbt, rfl, b⟩
      have HB0 : Hid (Below w.heap.size w w11) := HB.out.trans (b.mono HB.out.size)
      clear HB
      have HB := HB0
      clear HB0
      have hszw11 := b.size
      clear b nA
      have herr := readSm_err t
      have HYO := Lib.hid (readSm_ok hbt)
      have HYL := Lib.hid (readSm_len t)
      have HYB := Lib.hid (fun h => readSm_bad (s := t) h)
      obtain ⟨⟨⟨u0, u1, u2, u3, u4, M⟩, re⟩, hrt⟩ : ∃ r, readSm t = r := ⟨_, rfl⟩
      rw [hrt] at herr HYO HYL HYB
      obtain ⟨m, hm⟩ : ∃ m, M.length = m := ⟨_, rfl⟩
      have HRT := Lib.hid (fun (W : World) => read2 t ht hbt hrt hm W)
      have HRR := Lib.hid (fun (W : World) => rread2 t ht hbt hrt hm W)
      have HMM := Lib.hid hm
      have hm8 : m ≤ 8 := by rw [← hm]; exact HYL.out
      clear hrt hm HYL
      have nzD := heap_alloc_new w11 (.cells (cells noughts) 42)
      have bbD := below_box w11 (.cells (cells t) 42)
      have nD := heap_alloc_new w11 (.cells (cells t) 42)
      have eD := World.setRow_alloc_new w11 (cells noughts) (cells t) 42
      obtain ⟨w12, hwD⟩ : ∃ wx, w11.alloc (.cells (cells t) 42) = wx := ⟨_, rfl⟩
      rw [hwD] at bbD nD eD
      have hsD : w12.heap.size = w11.heap.size + 1 := by rw [← hwD]; simp
      have HBD : Hid (Below w.heap.size w w12) := HB.out.trans (bbD.mono HB.out.size)
      clear HB
      have HB := HBD
      clear HBD bbD hwD
      obtain ⟨mD, hmD⟩ : ∃ m, w11.heap.size = m := ⟨_, rfl⟩
      rw [hmD] at nzD nD eD hsD
      have hleD : w.heap.size < mD := by omega
      have HCD := Lib.hid (block_cells ht nD)
      go_wp2_with (first
        | (refine wpList_store_sector rfl _ _ rfl mD t rfl rfl ht _ _ nzD rfl ?_; rw [eD])
        | refine wpList_load_sector rfl _ rfl mD 0 t rfl ht HCD.out ?_)
      clear HCD nzD eD hmD
      refine (HRT.out w12).mono ?_
      rintro e w13 ⟨b, aE, cE, rfl, hrE⟩
      have nD' := (b.block mD (by omega)).trans nD
      clear nD
      have nD := nD'
      clear nD'
      have HB0 : Hid (Below w.heap.size w w13) := HB.out.trans (b.mono HB.out.size)
      clear HB
      have HB := HB0
      clear HB0
      have hszw13 := b.size
      clear b
      have nzE := heap_alloc_new w13 (.cells #[.int .u64 0, .int .u64 0, .bool false, .int .i64 0, .int .u32 0, .slice none 0 0] 48)
      have bbE := below_box w13 (.cells #[.int .u64 (u0 : Nat), .int .u64 (u1 : Nat), .bool u2, .int .i64 u3, .int .u32 (u4 : Nat), .slice aE m cE] 48)
      have nE := heap_alloc_new w13 (.cells #[.int .u64 (u0 : Nat), .int .u64 (u1 : Nat), .bool u2, .int .i64 u3, .int .u32 (u4 : Nat), .slice aE m cE] 48)
      have eE := World.setRow_alloc_new w13 #[.int .u64 0, .int .u64 0, .bool false, .int .i64 0, .int .u32 0, .slice none 0 0] #[.int .u64 (u0 : Nat), .int .u64 (u1 : Nat), .bool u2, .int .i64 u3, .int .u32 (u4 : Nat), .slice aE m cE] 48
      obtain ⟨w14, hwE⟩ : ∃ wx, w13.alloc (.cells #[.int .u64 (u0 : Nat), .int .u64 (u1 : Nat), .bool u2, .int .i64 u3, .int .u32 (u4 : Nat), .slice aE m cE] 48) = wx := ⟨_, rfl⟩
      rw [hwE] at bbE nE eE
      have hsE : w14.heap.size = w13.heap.size + 1 := by rw [← hwE]; simp
      have nD' := (bbE.block mD (by omega)).trans nD
      have HBE : Hid (Below w.heap.size w w14) := HB.out.trans (bbE.mono HB.out.size)
      clear HB
      have HB := HBE
      clear HBE bbE
      have hwE9 := hwE
      clear hwE
      clear nD
      have nD := nD'
      clear nD'
      obtain ⟨mE, hmE⟩ : ∃ m, w13.heap.size = m := ⟨_, rfl⟩
      rw [hmE] at nzE nE eE hsE
      have hleE : w.heap.size < mE := by omega
      have hltE0 : mD < mE := by omega
      have hsE0 : (Try.prog.info? 48).map (·.size) = some (#[.int .u64 (u0 : Nat), .int .u64 (u1 : Nat), .bool u2, .int .i64 u3, .int .u32 (u4 : Nat), .slice aE m cE] : Array Value).size := size_sum
      have hoE : (#[.int .u64 (u0 : Nat), .int .u64 (u1 : Nat), .bool u2, .int .i64 u3, .int .u32 (u4 : Nat), .slice aE m cE] : Array Value).all (·.oneCell') = true := by simp [Value.oneCell']
      have HRE := Lib.hid (hrE.below (show Below w13.heap.size w13 w14 by rw [← hwE9]; exact below_box w13 _))
      clear hwE9 hrE
      have HCD := Lib.hid (block_cells ht nD)
      go_wp2_with (first
        | (refine wpList_store_row rfl 48 _ _ rfl mE #[.int .u64 (u0 : Nat), .int .u64 (u1 : Nat), .bool u2, .int .i64 u3, .int .u32 (u4 : Nat), .slice aE m cE] rfl rfl _ _ nzE hsE0 rfl hoE ?_; rw [eE])
        | refine wpList_load_sector rfl _ rfl mD 0 t rfl ht HCD.out ?_)
      clear HCD nzE eE hmE hsE0 hoE
      refine (HRR.out w14).mono ?_
      rintro e w15 ⟨b, z0, z1, z2, z3, z4, k, aG, cG, rfl, hz0⟩
      have nD' := (b.block mD (by omega)).trans nD
      clear nD
      have nD := nD'
      clear nD'
      have nE' := (b.block mE (by omega)).trans nE
      clear nE
      have nE := nE'
      clear nE'
      have HB0 : Hid (Below w.heap.size w w15) := HB.out.trans (b.mono HB.out.size)
      clear HB
      have HB := HB0
      clear HB0
      have hszw15 := b.size
      have HRE5 := Lib.hid (HRE.out.below b)
      clear b HRE
      have nzG := heap_alloc_new w15 (.cells #[.int .u64 0, .int .u64 0, .bool false, .int .i64 0, .int .u32 0, .slice none 0 0] 39)
      have bbG := below_box w15 (.cells #[.int .u64 (z0 : Nat), .int .u64 (z1 : Nat), .bool z2, .int .i64 z3, .int .u32 (z4 : Nat), .slice aG k cG] 39)
      have nG := heap_alloc_new w15 (.cells #[.int .u64 (z0 : Nat), .int .u64 (z1 : Nat), .bool z2, .int .i64 z3, .int .u32 (z4 : Nat), .slice aG k cG] 39)
      have eG := World.setRow_alloc_new w15 #[.int .u64 0, .int .u64 0, .bool false, .int .i64 0, .int .u32 0, .slice none 0 0] #[.int .u64 (z0 : Nat), .int .u64 (z1 : Nat), .bool z2, .int .i64 z3, .int .u32 (z4 : Nat), .slice aG k cG] 39
      obtain ⟨w16, hwG⟩ : ∃ wx, w15.alloc (.cells #[.int .u64 (z0 : Nat), .int .u64 (z1 : Nat), .bool z2, .int .i64 z3, .int .u32 (z4 : Nat), .slice aG k cG] 39) = wx := ⟨_, rfl⟩
      rw [hwG] at bbG nG eG
      have hsG : w16.heap.size = w15.heap.size + 1 := by rw [← hwG]; simp
      have nD' := (bbG.block mD (by omega)).trans nD
      have nE' := (bbG.block mE (by omega)).trans nE
      have HBG : Hid (Below w.heap.size w w16) := HB.out.trans (bbG.mono HB.out.size)
      clear HB
      have HB := HBG
      clear HBG bbG
      have hwG9 := hwG
      clear hwG
      clear nD
      have nD := nD'
      clear nD'
      clear nE
      have nE := nE'
      clear nE'
      obtain ⟨mG, hmG⟩ : ∃ m, w15.heap.size = m := ⟨_, rfl⟩
      rw [hmG] at nzG nG eG hsG
      have hleG : w.heap.size < mG := by omega
      have hltG0 : mD < mG := by omega
      have hltG1 : mE < mG := by omega
      have hsG0 : (Try.prog.info? 39).map (·.size) = some (#[.int .u64 (z0 : Nat), .int .u64 (z1 : Nat), .bool z2, .int .i64 z3, .int .u32 (z4 : Nat), .slice aG k cG] : Array Value).size := rsize_sum
      have hoG : (#[.int .u64 (z0 : Nat), .int .u64 (z1 : Nat), .bool z2, .int .i64 z3, .int .u32 (z4 : Nat), .slice aG k cG] : Array Value).all (·.oneCell') = true := by simp [Value.oneCell']
      have bG9 : Below w15.heap.size w15 w16 := by rw [← hwG9]; exact below_box w15 _
      have HRE6 := Lib.hid (HRE5.out.below bG9)
      have HZ0 := Lib.hid hz0
      have HBG9 := Lib.hid bG9
      have hoZ : (#[.int .u64 0, .int .u64 0, .bool false, .int .i64 0, .int .u32 0, .slice none 0 0] : Array Value).all (·.oneCell') = true := by simp [Value.oneCell']
      have hsZ : (Try.prog.info? 39).map (·.size) = some (#[.int .u64 0, .int .u64 0, .bool false, .int .i64 0, .int .u32 0, .slice none 0 0] : Array Value).size := rsize_sum
      have hbz : ∀ W, (Instr.build 39 #[]).run Try.prog W = .ok (.agg #[.int .u64 0, .int .u64 0, .bool false, .int .i64 0, .int .u32 0, .slice none 0 0]) W := fun W => by kernel_rfl
      clear hwG9 hz0 bG9 HRE5
      rcases herr with rfl | rfl
      · obtain ⟨rfl, rfl, rfl, rfl, rfl, rfl, hrG⟩ := HZ0.out rfl
        have HRG := Lib.hid (hrG.below HBG9.out)
        clear hrG
        go_wp2_with (refine wpList_store_row rfl 39 _ _ rfl mG #[.int .u64 (z0 : Nat), .int .u64 (z1 : Nat), .bool z2, .int .i64 z3, .int .u32 (z4 : Nat), .slice aG k cG] rfl rfl _ _ nzG hsG0 rfl hoG ?_; rw [eG])
        have nE0 : w16.drew.heap[mE]? = _ := nE
        have nG0 : w16.drew.heap[mG]? = _ := nG
        have HRE7 := Lib.hid (HRE6.out.below (below_drew w16))
        have HRG7 := Lib.hid (HRG.out.below (below_drew w16))
        have HB7 := Lib.hid (below_next HB.out (below_drew w16))
        have SS := Lib.hid (fun (W : World) (h1 : W.heap[mE]? = some (.cells #[.int .u64 (z0 : Nat), .int .u64 (z1 : Nat), .bool z2, .int .i64 z3, .int .u32 (z4 : Nat), .slice aE k cE] 48 (0, 0))) (h2 : W.heap[mG]? = some (.cells #[.int .u64 (z0 : Nat), .int .u64 (z1 : Nat), .bool z2, .int .i64 z3, .int .u32 (z4 : Nat), .slice aG k cG] 39 (0, 0))) => (⟨⟨cell_of_row h1 0, cell_of_row h1 1, cell_of_row h1 2, cell_of_row h1 3, cell_of_row h1 4, cell_of_row h1 5⟩, ⟨cell_of_row h2 0, cell_of_row h2 1, cell_of_row h2 2, cell_of_row h2 3, cell_of_row h2 4, cell_of_row h2 5⟩⟩ : (W.cell? ⟨mE, 0, none⟩ = some (.int .u64 (z0 : Nat)) ∧ W.cell? ⟨mE, 1, none⟩ = some (.int .u64 (z1 : Nat)) ∧ W.cell? ⟨mE, 2, none⟩ = some (.bool z2) ∧ W.cell? ⟨mE, 3, none⟩ = some (.int .i64 z3) ∧ W.cell? ⟨mE, 4, none⟩ = some (.int .u32 (z4 : Nat)) ∧ W.cell? ⟨mE, 5, none⟩ = some (.slice aE k cE)) ∧ (W.cell? ⟨mG, 0, none⟩ = some (.int .u64 (z0 : Nat)) ∧ W.cell? ⟨mG, 1, none⟩ = some (.int .u64 (z1 : Nat)) ∧ W.cell? ⟨mG, 2, none⟩ = some (.bool z2) ∧ W.cell? ⟨mG, 3, none⟩ = some (.int .i64 z3) ∧ W.cell? ⟨mG, 4, none⟩ = some (.int .u32 (z4 : Nat)) ∧ W.cell? ⟨mG, 5, none⟩ = some (.slice aG k cG))))
        have HNE := Lib.hid nE0
        have HNG := Lib.hid nG0
        clear nE0 nG0
        refine wp_region_held_drew (S := (fun W => (W.cell? ⟨mE, 0, none⟩ = some (.int .u64 (z0 : Nat)) ∧ W.cell? ⟨mE, 1, none⟩ = some (.int .u64 (z1 : Nat)) ∧ W.cell? ⟨mE, 2, none⟩ = some (.bool z2) ∧ W.cell? ⟨mE, 3, none⟩ = some (.int .i64 z3) ∧ W.cell? ⟨mE, 4, none⟩ = some (.int .u32 (z4 : Nat)) ∧ W.cell? ⟨mE, 5, none⟩ = some (.slice aE k cE)) ∧ (W.cell? ⟨mG, 0, none⟩ = some (.int .u64 (z0 : Nat)) ∧ W.cell? ⟨mG, 1, none⟩ = some (.int .u64 (z1 : Nat)) ∧ W.cell? ⟨mG, 2, none⟩ = some (.bool z2) ∧ W.cell? ⟨mG, 3, none⟩ = some (.int .i64 z3) ∧ W.cell? ⟨mG, 4, none⟩ = some (.int .u32 (z4 : Nat)) ∧ W.cell? ⟨mG, 5, none⟩ = some (.slice aG k cG)))) (by kernel_rfl) (SS.out _ HNE.out HNG.out) (fun hHeld => ?_)
        refine wpAnyH_take (i := 0) (v := .agg #[.int .u64 (z0 : Nat), .int .u64 (z1 : Nat), .bool z2, .int .i64 z3, .int .u32 (z4 : Nat), .slice aE k cE]) rfl (by kernel_rfl) (by kernel_rfl) (by kernel_rfl) (fun _ _ _ h => h) (Or.inl ⟨by kernel_rfl, fun wS hSw => by
          dsimp only at hSw
          obtain ⟨⟨q0, q1, q2, q3, q4, q5⟩, ⟨t0, t1, t2, t3, t4, t5⟩⟩ := hSw
          go_simp⟩) hHeld ?_
        try simp only [Act.put, List.setIfInBounds_toArray, List.set_cons_zero, List.set_cons_succ]
        refine wpAnyH_take (i := 2) (v := .agg #[.int .u64 (z0 : Nat), .int .u64 (z1 : Nat), .bool z2, .int .i64 z3, .int .u32 (z4 : Nat), .slice aG k cG]) rfl (by kernel_rfl) (by kernel_rfl) (by kernel_rfl) (fun _ _ _ h => h) (Or.inl ⟨by kernel_rfl, fun wS hSw => by
          dsimp only at hSw
          obtain ⟨⟨q0, q1, q2, q3, q4, q5⟩, ⟨t0, t1, t2, t3, t4, t5⟩⟩ := hSw
          go_simp⟩) hHeld ?_
        try simp only [Act.put, List.setIfInBounds_toArray, List.set_cons_zero, List.set_cons_succ]
        refine wpAnyH_ready (rs := [1]) (by kernel_rfl) (by simp) ?_
        refine AllReadyH.cons rfl (fun K hK => ?_) AllReadyH.nil
        go_simp
        refine (told2 (L := M) HYO.out HMM.out (by omega) HRE7.out).mono ?_
        rintro e v1 ⟨b1, a9, c9, rfl, hr9⟩
        have HRT9 := Lib.hid hr9
        have HNE1 := Lib.hid ((b1.block mE (Array.getElem?_eq_some_iff.1 HNE.out).1).trans HNE.out)
        have HNG1 := Lib.hid ((b1.block mG (Array.getElem?_eq_some_iff.1 HNG.out).1).trans HNG.out)
        have HRG8 := Lib.hid (HRG7.out.below b1)
        have BV1 := Lib.hid b1
        clear b1 hr9
        try dsimp only
        refine hK.out _ _ (SS.out _ HNE1.out HNG1.out) (fun hHeld2 => ?_)
        clear hK K hHeld
        have hHeld := hHeld2
        clear hHeld2
        try simp only [Act.put, List.setIfInBounds_toArray, List.set_cons_zero, List.set_cons_succ]
        refine wpAnyH_ready (rs := [3]) (by kernel_rfl) (by simp) ?_
        refine AllReadyH.cons rfl (fun K hK => ?_) AllReadyH.nil
        go_simp
        refine (same2 (L := M) HYO.out HMM.out (by omega) HRT9.out HRG8.out).mono ?_
        rintro e v2 ⟨rfl, b2⟩
        have HNE2 := Lib.hid ((b2.block mE (Array.getElem?_eq_some_iff.1 HNE1.out).1).trans HNE1.out)
        have HNG2 := Lib.hid ((b2.block mG (Array.getElem?_eq_some_iff.1 HNG1.out).1).trans HNG1.out)
        have BV2 := Lib.hid b2
        clear b2
        try dsimp only
        refine hK.out _ _ (SS.out _ HNE2.out HNG2.out) (fun hHeld2 => ?_)
        clear hK K hHeld
        have hHeld := hHeld2
        clear hHeld2
        try simp only [Act.put, List.setIfInBounds_toArray, List.set_cons_zero, List.set_cons_succ]
        refine wpAnyH_take (i := 4) (v := .bool true) rfl (by kernel_rfl) (by kernel_rfl) (by kernel_rfl) (fun _ _ _ h => h) (Or.inl ⟨by kernel_rfl, fun wS hSw => by
          dsimp only at hSw
          obtain ⟨⟨q0, q1, q2, q3, q4, q5⟩, ⟨t0, t1, t2, t3, t4, t5⟩⟩ := hSw
          go_simp⟩) hHeld ?_
        try simp only [Act.put, List.setIfInBounds_toArray, List.set_cons_zero, List.set_cons_succ]
        refine wpAnyH_take (i := 5) (v := .int .i64 0) rfl (by kernel_rfl) (by kernel_rfl) (by kernel_rfl) (fun _ _ _ h => h) (Or.inl ⟨by kernel_rfl, fun wS hSw => by
          dsimp only at hSw
          obtain ⟨⟨q0, q1, q2, q3, q4, q5⟩, ⟨t0, t1, t2, t3, t4, t5⟩⟩ := hSw
          go_simp⟩) hHeld ?_
        try simp only [Act.put, List.setIfInBounds_toArray, List.set_cons_zero, List.set_cons_succ]
        refine wpAnyH_take (i := 6) (v := .bool true) rfl (by kernel_rfl) (by kernel_rfl) (by kernel_rfl) (fun _ _ _ h => h) (Or.inl ⟨by kernel_rfl, fun wS hSw => by
          dsimp only at hSw
          obtain ⟨⟨q0, q1, q2, q3, q4, q5⟩, ⟨t0, t1, t2, t3, t4, t5⟩⟩ := hSw
          go_simp⟩) hHeld ?_
        try simp only [Act.put, List.setIfInBounds_toArray, List.set_cons_zero, List.set_cons_succ]
        refine wpAnyH_take (i := 7) (v := .bool true) rfl (by kernel_rfl) (by kernel_rfl) (by kernel_rfl) (fun _ _ _ h => h) (Or.inl ⟨by kernel_rfl, fun wS hSw => by
          dsimp only at hSw
          obtain ⟨⟨q0, q1, q2, q3, q4, q5⟩, ⟨t0, t1, t2, t3, t4, t5⟩⟩ := hSw
          go_simp⟩) hHeld ?_
        try simp only [Act.put, List.setIfInBounds_toArray, List.set_cons_zero, List.set_cons_succ]
        refine wpAnyH_take (i := 8) (v := .bool true) rfl (by kernel_rfl) (by kernel_rfl) (by kernel_rfl) (fun _ _ _ h => h) (Or.inl ⟨by kernel_rfl, fun wS hSw => by
          dsimp only at hSw
          obtain ⟨⟨q0, q1, q2, q3, q4, q5⟩, ⟨t0, t1, t2, t3, t4, t5⟩⟩ := hSw
          go_simp⟩) hHeld ?_
        try simp only [Act.put, List.setIfInBounds_toArray, List.set_cons_zero, List.set_cons_succ]
        refine wpAnyH_take (i := 9) (v := .bool true) rfl (by kernel_rfl) (by kernel_rfl) (by kernel_rfl) (fun _ _ _ h => h) (Or.inl ⟨by kernel_rfl, fun wS hSw => by
          dsimp only at hSw
          obtain ⟨⟨q0, q1, q2, q3, q4, q5⟩, ⟨t0, t1, t2, t3, t4, t5⟩⟩ := hSw
          go_simp⟩) hHeld ?_
        try simp only [Act.put, List.setIfInBounds_toArray, List.set_cons_zero, List.set_cons_succ]
        refine wpAnyH_take (i := 10) (v := .bool true) rfl (by kernel_rfl) (by kernel_rfl) (by kernel_rfl) (fun _ _ _ h => h) (Or.inl ⟨by kernel_rfl, fun wS hSw => by
          dsimp only at hSw
          obtain ⟨⟨q0, q1, q2, q3, q4, q5⟩, ⟨t0, t1, t2, t3, t4, t5⟩⟩ := hSw
          go_simp⟩) hHeld ?_
        try simp only [Act.put, List.setIfInBounds_toArray, List.set_cons_zero, List.set_cons_succ]
        refine wpAnyH_take (i := 11) (v := .bool true) rfl (by kernel_rfl) (by kernel_rfl) (by kernel_rfl) (fun _ _ _ h => h) (Or.inl ⟨by kernel_rfl, fun wS hSw => by
          dsimp only at hSw
          obtain ⟨⟨q0, q1, q2, q3, q4, q5⟩, ⟨t0, t1, t2, t3, t4, t5⟩⟩ := hSw
          go_simp⟩) hHeld ?_
        try simp only [Act.put, List.setIfInBounds_toArray, List.set_cons_zero, List.set_cons_succ]
        refine wpAnyH_take (i := 12) (v := .bool true) rfl (by kernel_rfl) (by kernel_rfl) (by kernel_rfl) (fun _ _ _ h => h) (Or.inl ⟨by kernel_rfl, fun wS hSw => by
          dsimp only at hSw
          obtain ⟨⟨q0, q1, q2, q3, q4, q5⟩, ⟨t0, t1, t2, t3, t4, t5⟩⟩ := hSw
          go_simp⟩) hHeld ?_
        try simp only [Act.put, List.setIfInBounds_toArray, List.set_cons_zero, List.set_cons_succ]
        refine wpAnyH_take (i := 13) (v := undef) rfl (by kernel_rfl) (by kernel_rfl) (by kernel_rfl) (fun _ _ _ h => h) (Or.inr ⟨by kernel_rfl, rfl⟩) hHeld ?_
        try simp only [Act.put, List.setIfInBounds_toArray, List.set_cons_zero, List.set_cons_succ]
        refine wpAnyH_take (i := 14) (v := undef) rfl (by kernel_rfl) (by kernel_rfl) (by kernel_rfl) (fun _ _ _ h => h) (Or.inr ⟨by kernel_rfl, rfl⟩) hHeld ?_
        try simp only [Act.put, List.setIfInBounds_toArray, List.set_cons_zero, List.set_cons_succ]
        refine wpAnyH_take (i := 15) (v := .bool true) rfl (by kernel_rfl) (by kernel_rfl) (by kernel_rfl) (fun _ _ _ h => h) (Or.inl ⟨by kernel_rfl, fun wS hSw => by
          dsimp only at hSw
          obtain ⟨⟨q0, q1, q2, q3, q4, q5⟩, ⟨t0, t1, t2, t3, t4, t5⟩⟩ := hSw
          go_simp⟩) hHeld ?_
        try simp only [Act.put, List.setIfInBounds_toArray, List.set_cons_zero, List.set_cons_succ]
        refine wpAnyH_take (i := 16) (v := .bool true) rfl (by kernel_rfl) (by kernel_rfl) (by kernel_rfl) (fun _ _ _ h => h) (Or.inl ⟨by kernel_rfl, fun wS hSw => by
          dsimp only at hSw
          obtain ⟨⟨q0, q1, q2, q3, q4, q5⟩, ⟨t0, t1, t2, t3, t4, t5⟩⟩ := hSw
          go_simp⟩) hHeld ?_
        try simp only [Act.put, List.setIfInBounds_toArray, List.set_cons_zero, List.set_cons_succ]
        refine wpAnyH_ready (rs := [17]) (by kernel_rfl) (by simp) ?_
        refine AllReadyH.cons rfl (fun K hK => ?_) AllReadyH.nil
        go_simp
        refine hK.out _ _ (SS.out _ HNE2.out HNG2.out) (fun hHeld2 => ?_)
        clear hK K hHeld
        have hHeld := hHeld2
        clear hHeld2
        try simp only [Act.put, List.setIfInBounds_toArray, List.set_cons_zero, List.set_cons_succ]
        refine wpAnyH_done (by kernel_rfl) ?_ _
        go_wp2
        go_ret
        exact ⟨rfl, below_next (below_next HB7.out BV1.out) BV2.out⟩
      · have hze := HYB.out (by decide)
        injection hze with hze1 hze2
        unfold zeroD at hze1
        injection hze1 with i0 i1 i2 i3 i4 i5
        subst i0 i1 i2 i3 i4 i5
        obtain rfl : m = 0 := HMM.out.symm
        have hzr : w16.setRow mG #[.int .u64 0, .int .u64 0, .bool false, .int .i64 0, .int .u32 0, .slice none 0 0] = w16.setRow mG #[.int .u64 0, .int .u64 0, .bool false, .int .i64 0, .int .u32 0, .slice none 0 0] := rfl
        have nZ := setRow_heap w16 mG _ #[.int .u64 0, .int .u64 0, .bool false, .int .i64 0, .int .u32 0, .slice none 0 0] _ _ nG
        have nEZ : (w16.setRow mG #[.int .u64 0, .int .u64 0, .bool false, .int .i64 0, .int .u32 0, .slice none 0 0]).heap[mE]? = _ := (setRow_other w16 mG mE #[.int .u64 0, .int .u64 0, .bool false, .int .i64 0, .int .u32 0, .slice none 0 0] (by omega)).trans nE
        have HBZ := Lib.hid (below_setRow (g := mG) HB.out (by omega) #[.int .u64 0, .int .u64 0, .bool false, .int .i64 0, .int .u32 0, .slice none 0 0])
        go_wp2_with (first
          | (refine wpList_store_row rfl 39 _ _ rfl mG #[.int .u64 (z0 : Nat), .int .u64 (z1 : Nat), .bool z2, .int .i64 z3, .int .u32 (z4 : Nat), .slice aG k cG] rfl rfl _ _ nzG hsG0 rfl hoG ?_; rw [eG])
          | refine wpList_store_row rfl 39 _ _ rfl mG #[.int .u64 0, .int .u64 0, .bool false, .int .i64 0, .int .u32 0, .slice none 0 0] rfl rfl _ _ nG hsZ rfl hoZ ?_)
        have nE0 : (w16.setRow mG #[.int .u64 0, .int .u64 0, .bool false, .int .i64 0, .int .u32 0, .slice none 0 0]).drew.heap[mE]? = _ := nEZ
        have nG0 : (w16.setRow mG #[.int .u64 0, .int .u64 0, .bool false, .int .i64 0, .int .u32 0, .slice none 0 0]).drew.heap[mG]? = _ := nZ
        have HRE7 := Lib.hid (ReadsR.nil (w16.setRow mG #[.int .u64 0, .int .u64 0, .bool false, .int .i64 0, .int .u32 0, .slice none 0 0]).drew aE 4)
        have HRG7 := Lib.hid (ReadsR.nil (w16.setRow mG #[.int .u64 0, .int .u64 0, .bool false, .int .i64 0, .int .u32 0, .slice none 0 0]).drew none 4)
        have HB7 := Lib.hid (below_next HBZ.out (below_drew (w16.setRow mG #[.int .u64 0, .int .u64 0, .bool false, .int .i64 0, .int .u32 0, .slice none 0 0])))
        have SS := Lib.hid (fun (W : World) (h1 : W.heap[mE]? = some (.cells #[.int .u64 0, .int .u64 0, .bool false, .int .i64 0, .int .u32 0, .slice aE 0 cE] 48 (0, 0))) (h2 : W.heap[mG]? = some (.cells #[.int .u64 0, .int .u64 0, .bool false, .int .i64 0, .int .u32 0, .slice none 0 0] 39 (0, 0))) => (⟨⟨cell_of_row h1 0, cell_of_row h1 1, cell_of_row h1 2, cell_of_row h1 3, cell_of_row h1 4, cell_of_row h1 5⟩, ⟨cell_of_row h2 0, cell_of_row h2 1, cell_of_row h2 2, cell_of_row h2 3, cell_of_row h2 4, cell_of_row h2 5⟩⟩ : (W.cell? ⟨mE, 0, none⟩ = some (.int .u64 0) ∧ W.cell? ⟨mE, 1, none⟩ = some (.int .u64 0) ∧ W.cell? ⟨mE, 2, none⟩ = some (.bool false) ∧ W.cell? ⟨mE, 3, none⟩ = some (.int .i64 0) ∧ W.cell? ⟨mE, 4, none⟩ = some (.int .u32 0) ∧ W.cell? ⟨mE, 5, none⟩ = some (.slice aE 0 cE)) ∧ (W.cell? ⟨mG, 0, none⟩ = some (.int .u64 0) ∧ W.cell? ⟨mG, 1, none⟩ = some (.int .u64 0) ∧ W.cell? ⟨mG, 2, none⟩ = some (.bool false) ∧ W.cell? ⟨mG, 3, none⟩ = some (.int .i64 0) ∧ W.cell? ⟨mG, 4, none⟩ = some (.int .u32 0) ∧ W.cell? ⟨mG, 5, none⟩ = some (.slice none 0 0))))
        have HNE := Lib.hid nE0
        have HNG := Lib.hid nG0
        clear nE0 nG0
        refine wp_region_held_drew (S := (fun W => (W.cell? ⟨mE, 0, none⟩ = some (.int .u64 0) ∧ W.cell? ⟨mE, 1, none⟩ = some (.int .u64 0) ∧ W.cell? ⟨mE, 2, none⟩ = some (.bool false) ∧ W.cell? ⟨mE, 3, none⟩ = some (.int .i64 0) ∧ W.cell? ⟨mE, 4, none⟩ = some (.int .u32 0) ∧ W.cell? ⟨mE, 5, none⟩ = some (.slice aE 0 cE)) ∧ (W.cell? ⟨mG, 0, none⟩ = some (.int .u64 0) ∧ W.cell? ⟨mG, 1, none⟩ = some (.int .u64 0) ∧ W.cell? ⟨mG, 2, none⟩ = some (.bool false) ∧ W.cell? ⟨mG, 3, none⟩ = some (.int .i64 0) ∧ W.cell? ⟨mG, 4, none⟩ = some (.int .u32 0) ∧ W.cell? ⟨mG, 5, none⟩ = some (.slice none 0 0)))) (by kernel_rfl) (SS.out _ HNE.out HNG.out) (fun hHeld => ?_)
        refine wpAnyH_take (i := 0) (v := .agg #[.int .u64 0, .int .u64 0, .bool false, .int .i64 0, .int .u32 0, .slice aE 0 cE]) rfl (by kernel_rfl) (by kernel_rfl) (by kernel_rfl) (fun _ _ _ h => h) (Or.inl ⟨by kernel_rfl, fun wS hSw => by
          dsimp only at hSw
          obtain ⟨⟨q0, q1, q2, q3, q4, q5⟩, ⟨t0, t1, t2, t3, t4, t5⟩⟩ := hSw
          go_simp⟩) hHeld ?_
        try simp only [Act.put, List.setIfInBounds_toArray, List.set_cons_zero, List.set_cons_succ]
        refine wpAnyH_take (i := 2) (v := .agg #[.int .u64 0, .int .u64 0, .bool false, .int .i64 0, .int .u32 0, .slice none 0 0]) rfl (by kernel_rfl) (by kernel_rfl) (by kernel_rfl) (fun _ _ _ h => h) (Or.inl ⟨by kernel_rfl, fun wS hSw => by
          dsimp only at hSw
          obtain ⟨⟨q0, q1, q2, q3, q4, q5⟩, ⟨t0, t1, t2, t3, t4, t5⟩⟩ := hSw
          go_simp⟩) hHeld ?_
        try simp only [Act.put, List.setIfInBounds_toArray, List.set_cons_zero, List.set_cons_succ]
        refine wpAnyH_ready (rs := [1]) (by kernel_rfl) (by simp) ?_
        refine AllReadyH.cons rfl (fun K hK => ?_) AllReadyH.nil
        go_simp
        refine (told2 (L := ([] : List (List FldD))) HYO.out HMM.out (by omega) HRE7.out).mono ?_
        rintro e v1 ⟨b1, a9, c9, rfl, hr9⟩
        have HRT9 := Lib.hid hr9
        have HNE1 := Lib.hid ((b1.block mE (Array.getElem?_eq_some_iff.1 HNE.out).1).trans HNE.out)
        have HNG1 := Lib.hid ((b1.block mG (Array.getElem?_eq_some_iff.1 HNG.out).1).trans HNG.out)
        have HRG8 := Lib.hid (HRG7.out.below b1)
        have BV1 := Lib.hid b1
        clear b1 hr9
        try dsimp only
        refine hK.out _ _ (SS.out _ HNE1.out HNG1.out) (fun hHeld2 => ?_)
        clear hK K hHeld
        have hHeld := hHeld2
        clear hHeld2
        try simp only [Act.put, List.setIfInBounds_toArray, List.set_cons_zero, List.set_cons_succ]
        refine wpAnyH_ready (rs := [3]) (by kernel_rfl) (by simp) ?_
        refine AllReadyH.cons rfl (fun K hK => ?_) AllReadyH.nil
        go_simp
        refine (same2 (L := ([] : List (List FldD))) HYO.out HMM.out (by omega) HRT9.out HRG8.out).mono ?_
        rintro e v2 ⟨rfl, b2⟩
        have HNE2 := Lib.hid ((b2.block mE (Array.getElem?_eq_some_iff.1 HNE1.out).1).trans HNE1.out)
        have HNG2 := Lib.hid ((b2.block mG (Array.getElem?_eq_some_iff.1 HNG1.out).1).trans HNG1.out)
        have BV2 := Lib.hid b2
        clear b2
        try dsimp only
        refine hK.out _ _ (SS.out _ HNE2.out HNG2.out) (fun hHeld2 => ?_)
        clear hK K hHeld
        have hHeld := hHeld2
        clear hHeld2
        try simp only [Act.put, List.setIfInBounds_toArray, List.set_cons_zero, List.set_cons_succ]
        refine wpAnyH_take (i := 4) (v := .bool true) rfl (by kernel_rfl) (by kernel_rfl) (by kernel_rfl) (fun _ _ _ h => h) (Or.inl ⟨by kernel_rfl, fun wS hSw => by
          dsimp only at hSw
          obtain ⟨⟨q0, q1, q2, q3, q4, q5⟩, ⟨t0, t1, t2, t3, t4, t5⟩⟩ := hSw
          go_simp⟩) hHeld ?_
        try simp only [Act.put, List.setIfInBounds_toArray, List.set_cons_zero, List.set_cons_succ]
        refine wpAnyH_take (i := 5) (v := .int .i64 21) rfl (by kernel_rfl) (by kernel_rfl) (by kernel_rfl) (fun _ _ _ h => h) (Or.inl ⟨by kernel_rfl, fun wS hSw => by
          dsimp only at hSw
          obtain ⟨⟨q0, q1, q2, q3, q4, q5⟩, ⟨t0, t1, t2, t3, t4, t5⟩⟩ := hSw
          go_simp⟩) hHeld ?_
        try simp only [Act.put, List.setIfInBounds_toArray, List.set_cons_zero, List.set_cons_succ]
        refine wpAnyH_take (i := 6) (v := .bool false) rfl (by kernel_rfl) (by kernel_rfl) (by kernel_rfl) (fun _ _ _ h => h) (Or.inl ⟨by kernel_rfl, fun wS hSw => by
          dsimp only at hSw
          obtain ⟨⟨q0, q1, q2, q3, q4, q5⟩, ⟨t0, t1, t2, t3, t4, t5⟩⟩ := hSw
          go_simp⟩) hHeld ?_
        try simp only [Act.put, List.setIfInBounds_toArray, List.set_cons_zero, List.set_cons_succ]
        refine wpAnyH_take (i := 7) (v := .bool false) rfl (by kernel_rfl) (by kernel_rfl) (by kernel_rfl) (fun _ _ _ h => h) (Or.inl ⟨by kernel_rfl, fun wS hSw => by
          dsimp only at hSw
          obtain ⟨⟨q0, q1, q2, q3, q4, q5⟩, ⟨t0, t1, t2, t3, t4, t5⟩⟩ := hSw
          go_simp⟩) hHeld ?_
        try simp only [Act.put, List.setIfInBounds_toArray, List.set_cons_zero, List.set_cons_succ]
        refine wpAnyH_take (i := 8) (v := .bool true) rfl (by kernel_rfl) (by kernel_rfl) (by kernel_rfl) (fun _ _ _ h => h) (Or.inl ⟨by kernel_rfl, fun wS hSw => by
          dsimp only at hSw
          obtain ⟨⟨q0, q1, q2, q3, q4, q5⟩, ⟨t0, t1, t2, t3, t4, t5⟩⟩ := hSw
          go_simp⟩) hHeld ?_
        try simp only [Act.put, List.setIfInBounds_toArray, List.set_cons_zero, List.set_cons_succ]
        refine wpAnyH_take (i := 9) (v := .bool true) rfl (by kernel_rfl) (by kernel_rfl) (by kernel_rfl) (fun _ _ _ h => h) (Or.inl ⟨by kernel_rfl, fun wS hSw => by
          dsimp only at hSw
          obtain ⟨⟨q0, q1, q2, q3, q4, q5⟩, ⟨t0, t1, t2, t3, t4, t5⟩⟩ := hSw
          go_simp⟩) hHeld ?_
        try simp only [Act.put, List.setIfInBounds_toArray, List.set_cons_zero, List.set_cons_succ]
        refine wpAnyH_take (i := 10) (v := .bool true) rfl (by kernel_rfl) (by kernel_rfl) (by kernel_rfl) (fun _ _ _ h => h) (Or.inl ⟨by kernel_rfl, fun wS hSw => by
          dsimp only at hSw
          obtain ⟨⟨q0, q1, q2, q3, q4, q5⟩, ⟨t0, t1, t2, t3, t4, t5⟩⟩ := hSw
          go_simp⟩) hHeld ?_
        try simp only [Act.put, List.setIfInBounds_toArray, List.set_cons_zero, List.set_cons_succ]
        refine wpAnyH_take (i := 11) (v := .bool false) rfl (by kernel_rfl) (by kernel_rfl) (by kernel_rfl) (fun _ _ _ h => h) (Or.inl ⟨by kernel_rfl, fun wS hSw => by
          dsimp only at hSw
          obtain ⟨⟨q0, q1, q2, q3, q4, q5⟩, ⟨t0, t1, t2, t3, t4, t5⟩⟩ := hSw
          go_simp⟩) hHeld ?_
        try simp only [Act.put, List.setIfInBounds_toArray, List.set_cons_zero, List.set_cons_succ]
        refine wpAnyH_take (i := 12) (v := .bool false) rfl (by kernel_rfl) (by kernel_rfl) (by kernel_rfl) (fun _ _ _ h => h) (Or.inl ⟨by kernel_rfl, fun wS hSw => by
          dsimp only at hSw
          obtain ⟨⟨q0, q1, q2, q3, q4, q5⟩, ⟨t0, t1, t2, t3, t4, t5⟩⟩ := hSw
          go_simp⟩) hHeld ?_
        try simp only [Act.put, List.setIfInBounds_toArray, List.set_cons_zero, List.set_cons_succ]
        refine wpAnyH_take (i := 13) (v := .int .i64 21) rfl (by kernel_rfl) (by kernel_rfl) (by kernel_rfl) (fun _ _ _ h => h) (Or.inl ⟨by kernel_rfl, fun wS hSw => by
          dsimp only at hSw
          obtain ⟨⟨q0, q1, q2, q3, q4, q5⟩, ⟨t0, t1, t2, t3, t4, t5⟩⟩ := hSw
          go_simp⟩) hHeld ?_
        try simp only [Act.put, List.setIfInBounds_toArray, List.set_cons_zero, List.set_cons_succ]
        refine wpAnyH_take (i := 14) (v := .bool true) rfl (by kernel_rfl) (by kernel_rfl) (by kernel_rfl) (fun _ _ _ h => h) (Or.inl ⟨by kernel_rfl, fun wS hSw => by
          dsimp only at hSw
          obtain ⟨⟨q0, q1, q2, q3, q4, q5⟩, ⟨t0, t1, t2, t3, t4, t5⟩⟩ := hSw
          go_simp⟩) hHeld ?_
        try simp only [Act.put, List.setIfInBounds_toArray, List.set_cons_zero, List.set_cons_succ]
        refine wpAnyH_take (i := 15) (v := .bool true) rfl (by kernel_rfl) (by kernel_rfl) (by kernel_rfl) (fun _ _ _ h => h) (Or.inl ⟨by kernel_rfl, fun wS hSw => by
          dsimp only at hSw
          obtain ⟨⟨q0, q1, q2, q3, q4, q5⟩, ⟨t0, t1, t2, t3, t4, t5⟩⟩ := hSw
          go_simp⟩) hHeld ?_
        try simp only [Act.put, List.setIfInBounds_toArray, List.set_cons_zero, List.set_cons_succ]
        refine wpAnyH_take (i := 16) (v := .bool true) rfl (by kernel_rfl) (by kernel_rfl) (by kernel_rfl) (fun _ _ _ h => h) (Or.inl ⟨by kernel_rfl, fun wS hSw => by
          dsimp only at hSw
          obtain ⟨⟨q0, q1, q2, q3, q4, q5⟩, ⟨t0, t1, t2, t3, t4, t5⟩⟩ := hSw
          go_simp⟩) hHeld ?_
        try simp only [Act.put, List.setIfInBounds_toArray, List.set_cons_zero, List.set_cons_succ]
        refine wpAnyH_ready (rs := [17]) (by kernel_rfl) (by simp) ?_
        refine AllReadyH.cons rfl (fun K hK => ?_) AllReadyH.nil
        go_simp
        refine hK.out _ _ (SS.out _ HNE2.out HNG2.out) (fun hHeld2 => ?_)
        clear hK K hHeld
        have hHeld := hHeld2
        clear hHeld2
        try simp only [Act.put, List.setIfInBounds_toArray, List.set_cons_zero, List.set_cons_succ]
        refine wpAnyH_done (by kernel_rfl) ?_ _
        go_wp2
        go_ret
        exact ⟨rfl, below_next (below_next HB7.out BV1.out) BV2.out⟩

end Go.Proofs.Ytplkglepbedhoaa
