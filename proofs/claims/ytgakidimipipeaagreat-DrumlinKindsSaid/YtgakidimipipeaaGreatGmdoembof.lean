/- The law DrumlinKinds, walked. -/
import Derived.Test.YtgakidimipipeaaGreatGhnjpaomd
import Derived.Test.YtgakidimipipeaaGreatGekppfkcd
import Derived.Test.YtgakidimipipeaaGreatGfjjmijcb
import Derived.Test.YtgakidimipipeaaGreatGbbknhcke
import Derived.Test.YtgakidimipipeaaGreatGood
import Derived.Deep.DeepCutAuto
namespace Go.Proofs.YtgakidimipipeaaGreat
open Go.RowKit Go.Sort
set_option linter.unusedVariables false
set_option linter.unusedSimpArgs false
set_option maxRecDepth 100000

def twoE (nm : ByteArray) : List Ent := [(7, nm), (9, ⟨#[46, 46]⟩), (0, ByteArray.empty), (0, ByteArray.empty)]
theorem twoE_all (nm : ByteArray) : (twoE nm).all mayD = mayD (7, nm) := by
  have h1 : mayD (9, ⟨#[46, 46]⟩) = true := by decide +kernel
  have h2 : mayD (0, ByteArray.empty) = true := by decide +kernel
  unfold twoE
  simp only [List.all_cons, List.all_nil, h1, h2, Bool.and_true]
theorem twoE_good (nm : ByteArray) : mayD (7, nm) = decide (goodE nm.data.toList = 0) := by
  unfold mayD
  simp
theorem build_two (nm : ByteArray) (w : World) : (Instr.build 48 #[(0, .agg #[.int .i64 7, .string nm]), (1, .agg #[.int .i64 9, .string ⟨#[46, 46]⟩])]).run Tryz.prog w = .ok (.agg (csE (twoE nm))) w := by kernel_rfl
theorem two_facts {nm : ByteArray} (h : goodE nm.data.toList = 0) : (writeDb (twoE nm)).2 = 0 ∧ (writeDb (twoE nm)).1.length = 128 ∧ Bytes (writeDb (twoE nm)).1 ∧ Kinds (writeDb (twoE nm)).1 0 := by
  have ha : (twoE nm).all mayD = true := by rw [twoE_all, twoE_good, h]; rfl
  obtain ⟨f1, f2, f3, f4⟩ := blk_facts (E := twoE nm) rfl ha
  have e : writeDb (twoE nm) = (wrB (blkF (twoE nm)), 0) := if_pos ha
  rw [e]
  refine ⟨rfl, f3, f4, ?_⟩
  have hx : ∃ r, wrB (blkF (twoE nm)) = 7 :: r := by
    rw [f2]
    exact ⟨_, rfl⟩
  obtain ⟨r, hr⟩ := hx
  exact kinds_seven hr
theorem two_bad {nm : ByteArray} (h : ¬ goodE nm.data.toList = 0) : writeDb (twoE nm) = (noughts, 1) := by
  have ha : (twoE nm).all mayD = false := by rw [twoE_all, twoE_good]; exact decide_eq_false h
  exact if_neg (by rw [ha]; decide)
set_option maxHeartbeats 6400000 in
theorem drumlinKinds_walk (X : List FldD) (hX : IsInode X) {y0 y1 : Nat} {y2 : Bool} {y3 : Int} {y4 : Nat} (L0 : List (List FldD)) (hok0 : OkD ⟨y0, y1, y2, y3, y4, L0⟩) (a : Option Addr) (cap : Nat) (hcap : L0.length ≤ cap) (nm0 : ByteArray) (hnm : nm0.size ≤ maxLen) (w : World) (hra0 : ReadsR w a 4 (L0.map rowV)) :
    Calls Tryz.prog 3 #[.agg (cellsF X), .agg #[.int .u64 (y0 : Nat), .int .u64 (y1 : Nat), .bool y2, .int .i64 y3, .int .u32 (y4 : Nat), .slice a L0.length cap], .string nm0] w fun e w' => e = .returned (.bool true) ∧ Below w.heap.size w w' := by
  have hz := zero_sector
  obtain ⟨n0, hn0⟩ : ∃ n, L0.length = n := ⟨_, rfl⟩
  rw [hn0] at hcap ⊢
  obtain ⟨L, hL⟩ : ∃ L, L0.take 8 = L := ⟨_, rfl⟩
  obtain ⟨n, hn⟩ : ∃ n, L.length = n := ⟨_, rfl⟩
  have hnn : n = min 8 n0 := by rw [← hn, ← hL, List.length_take, hn0]
  have hok : OkD ⟨y0, y1, y2, y3, y4, L⟩ := by
    obtain ⟨k0, k1, k3, k4, kl⟩ := hok0
    exact ⟨k0, k1, k3, k4, fun x hx => kl x (by have hx' : x ∈ L := hx; rw [← hL] at hx'; exact List.mem_of_mem_take hx')⟩
  have hra : ReadsR w a 4 (L.map rowV) := by
    have h := hra0.takeR 8
    rw [← List.map_take, hL] at h
    exact h
  have HRA := Lib.hid hra
  have HOK := Lib.hid hok
  have HN := Lib.hid hn
  have HX := Lib.hid hX
  obtain ⟨dS, hds1, hds2⟩ := rrow_sum
  obtain ⟨dI, hdi1, hdi2⟩ := row_rino
  have HDS := Lib.hid hds1
  have HDI := Lib.hid hdi1
  have HDS2 := Lib.hid hds2
  have HDI2 := Lib.hid hdi2
  have HSS : Hid ((Tryz.prog.info? 29).map (·.size) = some (#[.int .u64 (y0 : Nat), .int .u64 (y1 : Nat), .bool y2, .int .i64 y3, .int .u32 (y4 : Nat), .slice a n cap] : Array Value).toList.length) := Lib.hid rsize_sum
  have HSI : Hid ((Tryz.prog.info? 25).map (·.size) = some (rowV X).length) := Lib.hid (by unfold rowV; rw [List.length_map, hX.1]; exact size_rino)
  have bA := below_box w (.cells (cellsF X) 25)
  have nA := heap_alloc_new w (.cells (cellsF X) 25)
  obtain ⟨wA, hwA⟩ : ∃ W, w.alloc (.cells (cellsF X) 25) = W := ⟨_, rfl⟩
  have sA : wA.heap.size = w.heap.size + 1 := by rw [← hwA]; simp
  rw [hwA] at bA nA
  have bB := below_box wA (.cells #[.int .u64 (y0 : Nat), .int .u64 (y1 : Nat), .bool y2, .int .i64 y3, .int .u32 (y4 : Nat), .slice a n0 cap] 29)
  have nB := heap_alloc_new wA (.cells #[.int .u64 (y0 : Nat), .int .u64 (y1 : Nat), .bool y2, .int .i64 y3, .int .u32 (y4 : Nat), .slice a n0 cap] 29)
  obtain ⟨w1, hw1⟩ : ∃ W, wA.alloc (.cells #[.int .u64 (y0 : Nat), .int .u64 (y1 : Nat), .bool y2, .int .i64 y3, .int .u32 (y4 : Nat), .slice a n0 cap] 29) = W := ⟨_, rfl⟩
  have s1 : w1.heap.size = w.heap.size + 2 := by rw [← hw1]; simp [sA]
  rw [hw1] at bB nB
  rw [sA] at nB
  have nA1 := (bB.block w.heap.size (by omega)).trans nA
  have HB1 : Hid (Below w.heap.size w w1) := Lib.hid (below_next bA bB)
  have c5 : w1.cell? ⟨w.heap.size + 1, 5, none⟩ = some (.slice a n0 cap) := cell_of_row nB 5
  have fz := frozen_of_row w1 (w.heap.size + 1) 5 _ _ nB
  have NA1 := Lib.hid nA1
  have NB1 := Lib.hid nB
  have HS1 := Lib.hid s1
  clear bA nA bB nB s1 nA1 hok hra hn hX hok0 hra0 hn0 hL hds1 hdi1 hds2 hdi2
  go_enter Tryz.func3, Tryz.ntmps3
  go_upto_if 17 with (fail)
  go_cut [6] (fun s wx => s = .bool false ∧ Hid (wx.heap[w.heap.size]? = some (.cells (cellsF X) 25 (0, 0))) ∧ Hid (wx.heap[w.heap.size + 1]? = some (.cells #[.int .u64 (y0 : Nat), .int .u64 (y1 : Nat), .bool y2, .int .i64 y3, .int .u32 (y4 : Nat), .slice a n cap] 29 (0, 0))) ∧ Hid (Below w.heap.size w wx) ∧ Hid (w.heap.size + 2 = wx.heap.size))
  case first =>
    by_cases h12 : 8 < n0
    · have hx : (8 : Int) < (n0 : Int) := by omega
      have hy : (8 : Int) ≤ (cap : Int) := by omega
      obtain rfl : n = 8 := by omega
      have hset := heap_setCell_same w1 (w.heap.size + 1) 5 _ _ (.slice a 8 cap) NB1.out
      have HSET := Lib.hid hset
      have HSA : Hid ((w1.setCell ⟨w.heap.size + 1, 5, none⟩ (.slice a 8 cap)).heap[w.heap.size]? = some (.cells (cellsF X) 25 (0, 0))) := Lib.hid ((Below.heap_setCell w1 ⟨w.heap.size + 1, 5, none⟩ _ _ (by simp)).trans NA1.out)
      have HBS2 := Lib.hid (below_set (g := w.heap.size + 1) (i := 5) HB1.out (by omega) (.slice a 8 cap))
      clear hset hnn
      go_wp2
      go_meet
      exact ⟨rfl, HSA, HSET, HBS2, Lib.hid (by simpa [World.setCell] using HS1.out.symm)⟩
    · have hx : ¬ (8 : Int) < (n0 : Int) := by omega
      obtain rfl : n0 = n := by omega
      clear hnn
      go_wp2
      go_meet
      exact ⟨rfl, NA1, NB1, HB1, HS1.out.symm⟩
  case rest =>
    obtain ⟨rfl, NA, NB, HB, HSW⟩ := hcut
    generalize wc = wq at *
    have hn8 : n ≤ 8 := by omega
    have HN8 := Lib.hid hn8
    clear hnn hcap c5 fz NA1 NB1 HB1 hn8
    have HNA : Hid (∀ W, Below wq.heap.size wq W → W.heap[w.heap.size]? = some (.cells (cellsF X) 25 (0, 0))) := Lib.hid (fun W hW => (hW.block _ (by have := HSW.out; omega)).trans NA.out)
    have HNB : Hid (∀ W, Below wq.heap.size wq W → W.heap[w.heap.size + 1]? = some (.cells #[.int .u64 (y0 : Nat), .int .u64 (y1 : Nat), .bool y2, .int .i64 y3, .int .u32 (y4 : Nat), .slice a n cap] 29 (0, 0))) := Lib.hid (fun W hW => (hW.block _ (by have := HSW.out; omega)).trans NB.out)
    have HBW : Hid (∀ W, Below wq.heap.size wq W → Below w.heap.size w W) := Lib.hid (fun W hW => HB.out.trans (hW.mono HB.out.size))
    have HRAW : Hid (∀ W, Below wq.heap.size wq W → ReadsR W a 4 (L.map rowV)) := Lib.hid (fun W hW => HRA.out.below (HBW.out W hW))
    have hrl7 : (sealL 7 []).length = 128 := sealL_length (by decide)
    have hrb7 : Bytes (sealL 7 []) := sealL_bytes (by decide) (fun x hx => by cases hx) (by decide)
    have hrec : ∀ W : World, Calls Tryz.prog 4 #[.slice none 0 0] W fun e w' => e = .returned (.tuple #[.agg (cells (sealL 7 [])), .int .i64 0]) ∧ Below W.heap.size W w' := fun W => by
      have := writeRecords_is (w := W) [] (fun x hx => by cases hx) none 0 (ReadsR.nil W none 4)
      rw [records_none] at this
      exact this
    have hrd7 := fun W => readers_is (sealL 7 []) 1 hrl7 hrb7 kinds_records W
    obtain ⟨S7, hS7⟩ : ∃ S, sealL 7 [] = S := ⟨_, rfl⟩
    rw [hS7] at hrl7 hrec hrd7
    have HREC := Lib.hid hrec
    have HRD7 := Lib.hid hrd7
    have HL7 := Lib.hid hrl7
    have HB0 : Hid (Below wq.heap.size wq wq) := Lib.hid (Below.refl _ _)
    clear hrl7 hrb7 hrec hrd7 hS7 sA hwA hw1
    go_wp2_with fail
    refine (HREC.out wq).mono ?_
    rintro e u1 ⟨rfl, b⟩
    have HB1 : Hid (Below wq.heap.size wq u1) := Lib.hid b
    clear b HREC
    have nz1 := heap_alloc_new u1 (.cells (cells noughts) 31)
    have e1 := World.setRow_alloc_new u1 (cells noughts) (cells S7) 31
    have nn1 := heap_alloc_new u1 (.cells (cells S7) 31)
    have HV1 : Hid (Below wq.heap.size wq (u1.alloc (.cells (cells S7) 31))) := Lib.hid (HB1.out.alloc HB1.out.size _)
    obtain ⟨v1, hv1⟩ : ∃ W, u1.alloc (.cells (cells S7) 31) = W := ⟨_, rfl⟩
    rw [hv1] at e1 nn1 HV1
    have hvs1 : u1.heap.size < v1.heap.size := (Array.getElem?_eq_some_iff.1 nn1).1
    have HLD1 : Hid (∀ W, Below v1.heap.size v1 W → ∀ j, j < 128 → W.cell? ⟨u1.heap.size, 0 + j, none⟩ = some (byteV (S7.getD j 0))) := Lib.hid (fun W hW => block_cells HL7.out ((hW.block _ hvs1).trans nn1))
    have HZ1 := Lib.hid nz1
    have HE1 := Lib.hid e1
    clear nz1 e1 nn1 hv1 hvs1
    go_wp2_with (first | (refine wpList_store_sector rfl _ _ rfl u1.heap.size S7 rfl rfl HL7.out _ _ HZ1.out rfl ?_; rw [HE1.out]) | (refine wpList_load_sector_want rfl _ rfl u1.heap.size 0 S7 rfl HL7.out (HLD1.out v1 (Below.refl _ _)) ?_))
    refine (HRD7.out v1).mono ?_
    rintro e u2 ⟨rfl, b⟩
    have HB2 : Hid (Below wq.heap.size wq u2) := Lib.hid (HV1.out.trans (b.mono HV1.out.size))
    clear b HRD7 HLD1 HZ1 HE1 HV1
    have HRI : Hid (u2.rangeAt w.heap.size 0 (rowV X)) := Lib.hid (by have := row_range (HNA.out u2 HB2.out); exact this)
    go_wp2_with (refine wpList_load_mid rfl 25 _ rfl w.heap.size 0 rfl (rowV X) dI HRI.out HDI.out HDI2.out HSI.out ?_)
    refine (inode_own HX.out u2).mono ?_
    rintro e u3 ⟨rfl, b⟩
    have HB3 : Hid (Below wq.heap.size wq u3) := Lib.hid (HB2.out.trans (b.mono HB2.out.size))
    clear b HRI HB2
    have hwi := writeInode_is HX.out u3
    have hli := writeI_length X HX.out
    have hbi := writeI_bytes HX.out
    have hei := writeI_err X
    have hki := fun h => (kinds_inode HX.out h).1
    have hii := fun h => is_inode HX.out h
    obtain ⟨⟨mkI, eI⟩, hwe⟩ : ∃ r, writeI X = r := ⟨_, rfl⟩
    rw [hwe] at hwi hli hbi hei hki hii
    dsimp only at hwi hli hbi hei hki hii
    have HWI := Lib.hid hwi
    have HLI := Lib.hid hli
    have HBI := Lib.hid hbi
    have HEI : Hid (eI = 0 ∨ eI = 1) := Lib.hid (by rcases hei with h | h; exact .inl h.1; exact .inr h.1)
    have HKI := Lib.hid hki
    have HII := Lib.hid hii
    clear hwi hli hbi hei hki hii hwe
    go_wp2_with fail
    refine HWI.out.mono ?_
    rintro e u4 ⟨rfl, b⟩
    have HB4 : Hid (Below wq.heap.size wq u4) := Lib.hid (HB3.out.trans (b.mono HB3.out.size))
    clear b HWI HB3
    have nz4 := heap_alloc_new u4 (.cells (cells noughts) 31)
    have e4 := World.setRow_alloc_new u4 (cells noughts) (cells mkI) 31
    have nn4 := heap_alloc_new u4 (.cells (cells mkI) 31)
    have HV4 : Hid (Below wq.heap.size wq (u4.alloc (.cells (cells mkI) 31))) := Lib.hid (HB4.out.alloc HB4.out.size _)
    obtain ⟨v4, hv4⟩ : ∃ W, u4.alloc (.cells (cells mkI) 31) = W := ⟨_, rfl⟩
    rw [hv4] at e4 nn4 HV4
    have hvs4 : u4.heap.size < v4.heap.size := (Array.getElem?_eq_some_iff.1 nn4).1
    have HLD4 : Hid (∀ W, Below v4.heap.size v4 W → ∀ j, j < 128 → W.cell? ⟨u4.heap.size, 0 + j, none⟩ = some (byteV (mkI.getD j 0))) := Lib.hid (fun W hW => block_cells HLI.out ((hW.block _ hvs4).trans nn4))
    have HZ4 := Lib.hid nz4
    have HE4 := Lib.hid e4
    clear nz4 e4 nn4 hv4 hvs4
    go_upto_region 7 with (refine wpList_store_sector rfl _ _ rfl u4.heap.size mkI rfl rfl HLI.out _ _ HZ4.out rfl ?_; rw [HE4.out])
    go_cut [50] (fun v wx => v = .bool false ∧ Hid (Below wq.heap.size wq wx))
    case first =>
      rcases HEI.out with rfl | rfl
      · have HRD := Lib.hid (fun W => readers_is mkI 1 HLI.out HBI.out (HKI.out rfl) W)
        have his := fun W => is_any mkI 2 HLI.out HBI.out W
        rw [HII.out rfl] at his
        have HIS : Hid (∀ W, Calls Tryz.prog 8 #[.agg (cells mkI), .int .u8 2] W fun e w' => e = .returned (.bool true) ∧ Below W.heap.size W w') := Lib.hid his
        clear his
        go_wp2_with (refine wpList_load_sector_want rfl _ rfl u4.heap.size 0 mkI rfl HLI.out (HLD4.out v4 (Below.refl _ _)) ?_)
        refine (HRD.out v4).mono ?_
        rintro e u5 ⟨rfl, b⟩
        have HB5 : Hid (Below v4.heap.size v4 u5) := Lib.hid b
        clear b
        go_wp2_with (refine wpList_load_sector_want rfl _ rfl u4.heap.size 0 mkI rfl HLI.out (HLD4.out u5 HB5.out) ?_)
        refine (HIS.out u5).mono ?_
        rintro e u6 ⟨rfl, b⟩
        have HB6 : Hid (Below wq.heap.size wq u6) := Lib.hid ((HV4.out.trans (HB5.out.mono HV4.out.size)).trans (b.mono (Nat.le_trans HV4.out.size HB5.out.size)))
        clear b
        go_wp2
        go_meet
        exact ⟨rfl, HB6⟩
      · go_wp2
        go_meet
        exact ⟨rfl, HV4⟩
    case rest =>
      obtain ⟨rfl, HB7⟩ := hcut
      generalize wc = u7 at *
      clear HLD4 HZ4 HE4 HV4 HKI HII HEI HBI HLI HB4 HB1
      have HRS : Hid (u7.rangeAt (w.heap.size + 1) 0 (#[.int .u64 (y0 : Nat), .int .u64 (y1 : Nat), .bool y2, .int .i64 y3, .int .u32 (y4 : Nat), .slice a n cap] : Array Value).toList) := Lib.hid (row_range (HNB.out u7 HB7.out))
      have hos := ownSum_is (w := u7) (D := ⟨y0, y1, y2, y3, y4, L⟩) (a := a) (cap := cap) HOK.out (by have := HN8.out; have := HN.out; show L.length ≤ 1000; omega) (HRAW.out u7 HB7.out)
      change Calls _ _ #[.agg #[.int .u64 (y0 : Nat), .int .u64 (y1 : Nat), .bool y2, .int .i64 y3, .int .u32 (y4 : Nat), .slice a L.length cap]] _ _ at hos
      rw [HN.out] at hos
      have HOS := Lib.hid hos
      clear hos
      go_wp2_with (refine wpList_load_mid rfl 29 _ rfl (w.heap.size + 1) 0 rfl (#[.int .u64 (y0 : Nat), .int .u64 (y1 : Nat), .bool y2, .int .i64 y3, .int .u32 (y4 : Nat), .slice a n cap] : Array Value).toList dS HRS.out HDS.out HDS2.out HSS.out ?_)
      refine HOS.out.mono ?_
      rintro e u8 ⟨b, vv, rfl, ho⟩
      obtain ⟨a3, c3, rfl, hr3, -⟩ := owned_list ho
      have HB8 : Hid (Below wq.heap.size wq u8) := Lib.hid (HB7.out.trans (b.mono HB7.out.size))
      have hws := writeSummary_is (w := u8) (D := ⟨y0, y1, y2, y3, y4, L⟩) (a := a3) (cap := c3) HOK.out hr3
      have hls := writeD_length HOK.out
      have hbs := writeD_bytes HOK.out
      have hes := writeD_err ⟨y0, y1, y2, y3, y4, L⟩
      have hks := fun h => (kinds_sum HOK.out h).1
      have his := fun h => is_sum HOK.out h
      obtain ⟨⟨mkS, eS⟩, hwe⟩ : ∃ r, writeD ⟨y0, y1, y2, y3, y4, L⟩ = r := ⟨_, rfl⟩
      rw [hwe] at hws hls hbs hes hks his
      dsimp only at hws hls hbs hes hks his
      have HWS := Lib.hid hws
      have HLS := Lib.hid hls
      have HBS := Lib.hid hbs
      have HES := Lib.hid hes
      have HKS := Lib.hid hks
      have HSI2 := Lib.hid his
      clear hws hls hbs hes hks his hwe b ho hr3 HOS HRS HB7
      go_wp2_with fail
      refine HWS.out.mono ?_
      rintro e u9 ⟨rfl, b⟩
      have HB9 : Hid (Below wq.heap.size wq u9) := Lib.hid (HB8.out.trans (b.mono HB8.out.size))
      clear b HWS HB8
      have nz9 := heap_alloc_new u9 (.cells (cells noughts) 31)
      have e9 := World.setRow_alloc_new u9 (cells noughts) (cells mkS) 31
      have nn9 := heap_alloc_new u9 (.cells (cells mkS) 31)
      have HV9 : Hid (Below wq.heap.size wq (u9.alloc (.cells (cells mkS) 31))) := Lib.hid (HB9.out.alloc HB9.out.size _)
      obtain ⟨v9, hv9⟩ : ∃ W, u9.alloc (.cells (cells mkS) 31) = W := ⟨_, rfl⟩
      rw [hv9] at e9 nn9 HV9
      have hvs9 : u9.heap.size < v9.heap.size := (Array.getElem?_eq_some_iff.1 nn9).1
      have HLD9 : Hid (∀ W, Below v9.heap.size v9 W → ∀ j, j < 128 → W.cell? ⟨u9.heap.size, 0 + j, none⟩ = some (byteV (mkS.getD j 0))) := Lib.hid (fun W hW => block_cells HLS.out ((hW.block _ hvs9).trans nn9))
      have HZ9 := Lib.hid nz9
      have HE9 := Lib.hid e9
      clear nz9 e9 nn9 hv9 hvs9
      go_upto_region 10 with (refine wpList_store_sector rfl _ _ rfl u9.heap.size mkS rfl rfl HLS.out _ _ HZ9.out rfl ?_; rw [HE9.out])
      go_cut [68] (fun v wx => v = .bool false ∧ Hid (Below wq.heap.size wq wx))
      case first =>
        rcases HES.out with rfl | rfl
        · have HRD := Lib.hid (fun W => readers_is mkS 1 HLS.out HBS.out (HKS.out rfl) W)
          have his := fun W => is_any mkS 3 HLS.out HBS.out W
          rw [HSI2.out rfl] at his
          have HIS : Hid (∀ W, Calls Tryz.prog 8 #[.agg (cells mkS), .int .u8 3] W fun e w' => e = .returned (.bool true) ∧ Below W.heap.size W w') := Lib.hid his
          clear his
          go_wp2_with (refine wpList_load_sector_want rfl _ rfl u9.heap.size 0 mkS rfl HLS.out (HLD9.out v9 (Below.refl _ _)) ?_)
          refine (HRD.out v9).mono ?_
          rintro e u10 ⟨rfl, b⟩
          have HB10 : Hid (Below v9.heap.size v9 u10) := Lib.hid b
          clear b
          go_wp2_with (refine wpList_load_sector_want rfl _ rfl u9.heap.size 0 mkS rfl HLS.out (HLD9.out u10 HB10.out) ?_)
          refine (HIS.out u10).mono ?_
          rintro e u11 ⟨rfl, b⟩
          have HB11 : Hid (Below wq.heap.size wq u11) := Lib.hid ((HV9.out.trans (HB10.out.mono HV9.out.size)).trans (b.mono (Nat.le_trans HV9.out.size HB10.out.size)))
          clear b
          go_wp2
          go_meet
          exact ⟨rfl, HB11⟩
        · go_wp2
          go_meet
          exact ⟨rfl, HV9⟩
      case rest =>
        obtain ⟨rfl, HB12⟩ := hcut
        generalize wc = u12 at *
        clear HLD9 HZ9 HE9 HV9 HKS HSI2 HES HBS HLS HB9
        have HNM := Lib.hid hnm
        have hsz0 : nm0.size = nm0.size := rfl
        clear hnm hsz0
        go_upto_if 71 with (fail)
        go_cut [2] (fun v wx => u12 = wx ∧ ∃ nm : ByteArray, v = .string nm ∧ Hid (nm.size ≤ 60))
        case first =>
          by_cases h60 : 60 < nm0.size
          · have hx : (60 : Int) < (nm0.size : Int) := by omega
            have HLE : Hid ((nm0.extract 0 60).size ≤ 60) := Lib.hid (by rw [ByteArray.size_extract]; omega)
            go_wp2
            go_meet
            exact ⟨rfl, _, rfl, HLE⟩
          · have hx : ¬ (60 : Int) < (nm0.size : Int) := by omega
            go_wp2
            go_meet
            exact ⟨rfl, _, rfl, Lib.hid (by omega)⟩
        case rest =>
          obtain ⟨rfl, nm, rfl, HN60⟩ := hcut
          have HGD := Lib.hid (fun W => good_is nm W (by have := HN60.out; unfold Fit; omega))
          have hwd := fun W => writeDb_is (E := twoE nm) rfl (by
            intro x hx
            unfold twoE at hx
            simp only [List.mem_cons, List.not_mem_nil, or_false] at hx
            have := HN60.out
            rcases hx with rfl | rfl | rfl | rfl <;> exact ⟨by unfold I64; dsimp only; omega, by first | (dsimp only; omega) | decide⟩) W
          have hcs : csE (twoE nm) = #[.int .i64 7, .string nm, .int .i64 9, .string ⟨#[46, 46]⟩, .int .i64 0, .string ByteArray.empty, .int .i64 0, .string ByteArray.empty] := rfl
          rw [hcs] at hwd
          clear hcs
          by_cases hg : goodE nm.data.toList = 0
          · obtain ⟨f1, f2, f3, f4⟩ := two_facts hg
            rw [hg] at HGD
            obtain ⟨⟨mkD, eD⟩, hwe⟩ : ∃ r, writeDb (twoE nm) = r := ⟨_, rfl⟩
            rw [hwe] at hwd f1 f2 f3 f4
            dsimp only at hwd f1 f2 f3 f4
            subst f1
            have HWD := Lib.hid hwd
            have HLD := Lib.hid f2
            have HRD := Lib.hid (fun W => readers_is mkD 0 f2 f3 f4 W)
            clear hwd f2 f3 f4 hwe hg
            go_wp2_with fail
            refine (HWD.out u12).mono ?_
            rintro e u13 ⟨rfl, b⟩
            have HB13 : Hid (Below wq.heap.size wq u13) := Lib.hid (HB12.out.trans (b.mono HB12.out.size))
            clear b HWD
            have nz13 := heap_alloc_new u13 (.cells (cells noughts) 31)
            have e13 := World.setRow_alloc_new u13 (cells noughts) (cells mkD) 31
            have nn13 := heap_alloc_new u13 (.cells (cells mkD) 31)
            have HV13 : Hid (Below wq.heap.size wq (u13.alloc (.cells (cells mkD) 31))) := Lib.hid (HB13.out.alloc HB13.out.size _)
            obtain ⟨v13, hv13⟩ : ∃ W, u13.alloc (.cells (cells mkD) 31) = W := ⟨_, rfl⟩
            rw [hv13] at e13 nn13 HV13
            have hvs13 : u13.heap.size < v13.heap.size := (Array.getElem?_eq_some_iff.1 nn13).1
            have HLD13 : Hid (∀ W, Below v13.heap.size v13 W → ∀ j, j < 128 → W.cell? ⟨u13.heap.size, 0 + j, none⟩ = some (byteV (mkD.getD j 0))) := Lib.hid (fun W hW => block_cells HLD.out ((hW.block _ hvs13).trans nn13))
            have HZ13 := Lib.hid nz13
            have HE13 := Lib.hid e13
            clear nz13 e13 nn13 hv13 hvs13
            go_wp2_with (first | (refine wpList_store_sector rfl _ _ rfl u13.heap.size mkD rfl rfl HLD.out _ _ HZ13.out rfl ?_; rw [HE13.out]) | (refine wpList_load_sector rfl _ rfl u13.heap.size 0 mkD rfl HLD.out (HLD13.out v13 (Below.refl _ _)) ?_))
            refine (HRD.out v13).mono ?_
            rintro e u14 ⟨rfl, b⟩
            have HB14 : Hid (Below wq.heap.size wq u14) := Lib.hid (HV13.out.trans (b.mono HV13.out.size))
            clear b
            go_wp2_with fail
            refine (HGD.out u14).mono ?_
            rintro e u15 ⟨rfl, b⟩
            have HB15 : Hid (Below wq.heap.size wq u15) := Lib.hid (HB14.out.trans (b.mono HB14.out.size))
            clear b
            go_wp2
            go_ret
            exact ⟨rfl, HBW.out _ HB15.out⟩
          · have hbad := two_bad hg
            have f2 : (writeDb (twoE nm)).1.length = 128 := by rw [hbad]; rfl
            have f1 : (writeDb (twoE nm)).2 = 1 := by rw [hbad]
            clear hbad
            obtain ⟨⟨mkD, eD⟩, hwe⟩ : ∃ r, writeDb (twoE nm) = r := ⟨_, rfl⟩
            rw [hwe] at hwd f1 f2
            dsimp only at hwd f1 f2
            subst f1
            have HWD := Lib.hid hwd
            have HLD := Lib.hid f2
            clear f2 hwe
            obtain ⟨ge, hge⟩ : ∃ g, goodE nm.data.toList = g := ⟨_, rfl⟩
            rw [hge] at HGD hg
            have hgn : (ge != 0) = true := by simpa using hg
            clear hwd hge
            go_wp2_with fail
            refine (HWD.out u12).mono ?_
            rintro e u13 ⟨rfl, b⟩
            have HB13 : Hid (Below wq.heap.size wq u13) := Lib.hid (HB12.out.trans (b.mono HB12.out.size))
            clear b HWD
            have nz13 := heap_alloc_new u13 (.cells (cells noughts) 31)
            have e13 := World.setRow_alloc_new u13 (cells noughts) (cells mkD) 31
            have nn13 := heap_alloc_new u13 (.cells (cells mkD) 31)
            have HV13 : Hid (Below wq.heap.size wq (u13.alloc (.cells (cells mkD) 31))) := Lib.hid (HB13.out.alloc HB13.out.size _)
            obtain ⟨v13, hv13⟩ : ∃ W, u13.alloc (.cells (cells mkD) 31) = W := ⟨_, rfl⟩
            rw [hv13] at e13 nn13 HV13
            have hvs13 : u13.heap.size < v13.heap.size := (Array.getElem?_eq_some_iff.1 nn13).1
            have HLD13 : Hid (∀ W, Below v13.heap.size v13 W → ∀ j, j < 128 → W.cell? ⟨u13.heap.size, 0 + j, none⟩ = some (byteV (mkD.getD j 0))) := Lib.hid (fun W hW => block_cells HLD.out ((hW.block _ hvs13).trans nn13))
            have HZ13 := Lib.hid nz13
            have HE13 := Lib.hid e13
            clear nz13 e13 nn13 hv13 hvs13
            go_wp2_with (refine wpList_store_sector rfl _ _ rfl u13.heap.size mkD rfl rfl HLD.out _ _ HZ13.out rfl ?_; rw [HE13.out])
            refine (HGD.out v13).mono ?_
            rintro e u15 ⟨rfl, b⟩
            have HB15 : Hid (Below wq.heap.size wq u15) := Lib.hid (HV13.out.trans (b.mono HV13.out.size))
            clear b
            go_wp2
            go_ret
            exact ⟨by first | rfl | (simp [hg]), HBW.out _ HB15.out⟩
end Go.Proofs.YtgakidimipipeaaGreat
