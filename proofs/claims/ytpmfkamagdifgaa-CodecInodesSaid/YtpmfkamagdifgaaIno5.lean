/- The law CodecInodes, walked. -/
import Derived.Test.YtpmfkamagdifgaaIno4
import Derived.Deep.DeepCutAuto
import Derived.Deep.QuietTactic
namespace Go.Proofs.Ytpmfkamagdifgaa
open Go.ChangeShapes Go.WideShapes Go.RowKit Go.Deep Go.Sort
set_option linter.unusedVariables false
set_option linter.unusedSimpArgs false
set_option maxRecDepth 100000

theorem eql_ino {l : List FldD} (hl : IsInode l) (w : World) : (binOp .eql 82 (.agg (rowV l).toArray) (.agg (cellsF l))).run Try.prog w = .ok (.bool true) w := by
  obtain ⟨z0, z1, z2, z3, z4, z5, z6, z7, z8, z9, z10, z11, z12, z13, z14, rfl, _⟩ := ino_list hl
  exact run_eql_ino z0 z1 z2 z3 z4 z5 z6 z7 z8 z9 z10 z11 z12 z13 z14 w
theorem neq_ino {l : List FldD} (hl : IsInode l) (w : World) : (binOp .neq 82 (.agg (rowV l).toArray) (.agg (cellsF l))).run Try.prog w = .ok (.bool false) w := by
  obtain ⟨z0, z1, z2, z3, z4, z5, z6, z7, z8, z9, z10, z11, z12, z13, z14, rfl, _⟩ := ino_list hl
  exact run_neq_ino z0 z1 z2 z3 z4 z5 z6 z7 z8 z9 z10 z11 z12 z13 z14 w
set_option maxHeartbeats 6400000 in
theorem codecInodes_yes (L : List FldD) (hil : IsInode L) (a : Option Addr) (len cap : Nat) (bs : List Nat) (w : World) (hb : Reads w a len bs) (hbm : len ≤ maxLen) (h0 : (writeI L).2 = 0) :
    Calls Try.prog 7 #[.agg (cellsF L), .slice a len cap] w fun e w' => e = .returned (.bool true) ∧ Below w.heap.size w w' := by
  have hz := zero_sector
  have hzf := zero_full
  have hzi := zero_inode
  have hzr := zero_rino
  have hmk := writeI_length _ hil
  have hmkb := writeI_bytes hil
  have hoke : okI L = true := by
    rcases writeI_err L with ⟨h1, h2⟩ | ⟨h1, h2⟩
    · exact h2
    · rw [h0] at h1; cases h1
  have HW0 := fun (W : World) => writeInode_is hil W
  have HR0 := fun (W : World) => rwriteIno_is hil W
  rw [h0] at HW0
  rw [hoke] at HR0
  have hrw := readI_writeI hil h0
  obtain ⟨mk, hmke⟩ : ∃ x, (writeI L).1 = x := ⟨_, rfl⟩
  rw [hmke] at hmk hmkb HW0 HR0 hrw
  have HRD0 := fun (W : World) => readInode_is mk hmk hmkb W
  rw [hrw] at HRD0
  have hneqL := neq_ino hil
  have hX15 := hil.1
  have HWR := Lib.hid HW0
  have HRW := Lib.hid HR0
  have HRD := Lib.hid HRD0
  have hneq := run_neq_sector mk mk hmk hmk
  rw [decide_eq_true rfl, Bool.not_true] at hneq
  have HBS := Lib.hid hb
  have HBM := Lib.hid hbm
  have HIL := Lib.hid hil
  obtain ⟨dC, hdc1, hdc2⟩ := row_inode
  obtain ⟨dR, hdr1, hdr2⟩ := row_rino
  have HDC := Lib.hid hdc1
  have HDR := Lib.hid hdr1
  have SZV : ∀ l : List FldD, l.length = 15 → (Try.prog.info? 82).map (·.size) = some (rowV l).length := fun l hl => by unfold rowV; rw [List.length_map, hl]; exact size_inode
  have SZVR : ∀ l : List FldD, l.length = 15 → (Try.prog.info? 80).map (·.size) = some (rowV l).length := fun l hl => by unfold rowV; rw [List.length_map, hl]; exact size_rino
  have SZ : ∀ l : List FldD, l.length = 15 → (Try.prog.info? 82).map (·.size) = some (cellsF l).size := fun l hl => by rw [cellsF_size, hl]; exact size_inode
  have SZR : ∀ l : List FldD, l.length = 15 → (Try.prog.info? 80).map (·.size) = some (cellsF l).size := fun l hl => by rw [cellsF_size, hl]; exact size_rino
  have EQ : ∀ l : List FldD, IsInode l → ∀ w, (binOp .eql 82 (.agg (rowV l).toArray) (.agg (cellsF l))).run Try.prog w = .ok (.bool true) w := fun l hl w => eql_ino hl w
  have HSC := Lib.hid (SZV L hil.1)
  have HSR := Lib.hid (SZVR L hil.1)
  have HSX := Lib.hid (SZ L hX15)
  have HONX := Lib.hid (cellsF_one L)
  have HOLX : Hid ((cellsF zeroI).size = (cellsF L).size) := Lib.hid (by rw [cellsF_size, cellsF_size, hX15]; rfl)
  clear HW0 HR0 HRD0 hmke h0 hoke hil hb hbm hdc1 hdr1 hX15 hrw
  have HSZS := Lib.hid (And.intro SZ (And.intro SZR (And.intro SZV (And.intro SZVR EQ))))
  clear SZ SZR SZV SZVR EQ
  have b0 := below_box w (.cells (cellsF L) 80)
  have nl := heap_alloc_new w (.cells (cellsF L) 80)
  obtain ⟨w1, hw1⟩ : ∃ x, w.alloc (.cells (cellsF L) 80) = x := ⟨_, rfl⟩
  have hs1 : w1.heap.size = w.heap.size + 1 := by rw [← hw1]; simp
  rw [hw1] at b0 nl
  have HB := Lib.hid b0
  clear b0
  go_enter Try.func7, Try.ntmps7
  go_wp2_with fail
  refine (awake5_true w1).mono ?_
  rintro e w2 ⟨rfl, b⟩
  have nl' := (b.block w.heap.size (by omega)).trans nl
  clear nl
  have nl := nl'
  clear nl'
  have HB0 : Hid (Below w.heap.size w w2) := HB.out.trans (b.mono HB.out.size)
  clear HB
  have HB := HB0
  clear HB0
  have hszw2 := b.size
  clear b
  clear hw1
  have HRL := Lib.hid (rowV_range nl)
  go_wp2_with (refine wpList_load_mid rfl 80 _ rfl w.heap.size 0 rfl (rowV L) dR HRL.out HDR.out hdr2 HSR.out ?_)
  clear HRL
  refine (inode_own HIL.out w2).mono ?_
  rintro e w3 ⟨rfl, b⟩
  have nl' := (b.block w.heap.size (by omega)).trans nl
  clear nl
  have nl := nl'
  clear nl'
  have HB0 : Hid (Below w.heap.size w w3) := HB.out.trans (b.mono HB.out.size)
  clear HB
  have HB := HB0
  clear HB0
  have hszw3 := b.size
  clear b
  go_wp2_with fail
  refine (HWR.out w3).mono ?_
  rintro e w4 ⟨rfl, b⟩
  have nl' := (b.block w.heap.size (by omega)).trans nl
  clear nl
  have nl := nl'
  clear nl'
  have HB0 : Hid (Below w.heap.size w w4) := HB.out.trans (b.mono HB.out.size)
  clear HB
  have HB := HB0
  clear HB0
  have hszw4 := b.size
  clear b
  have nzA := heap_alloc_new w4 (.cells (cells noughts) 31)
  have bbA := below_box w4 (.cells (cells mk) 31)
  have nA := heap_alloc_new w4 (.cells (cells mk) 31)
  have eA := World.setRow_alloc_new w4 (cells noughts) (cells mk) 31
  obtain ⟨w5, hwA⟩ : ∃ wx, w4.alloc (.cells (cells mk) 31) = wx := ⟨_, rfl⟩
  rw [hwA] at bbA nA eA
  have hsA : w5.heap.size = w4.heap.size + 1 := by rw [← hwA]; simp
  have nl' := (bbA.block w.heap.size (by omega)).trans nl
  have HBA : Hid (Below w.heap.size w w5) := HB.out.trans (bbA.mono HB.out.size)
  clear HB
  have HB := HBA
  clear HBA bbA hwA
  clear nl
  have nl := nl'
  clear nl'
  obtain ⟨mA, hmA⟩ : ∃ m, w4.heap.size = m := ⟨_, rfl⟩
  rw [hmA] at nzA nA eA hsA
  have hleA : w.heap.size < mA := by omega
  have hltA0 : w.heap.size < mA := by omega
  have HRL := Lib.hid (rowV_range nl)
  go_wp2_with (first
    | (refine wpList_store_sector rfl _ _ rfl mA mk rfl rfl hmk _ _ nzA rfl ?_; rw [eA])
    | refine wpList_load_mid rfl 80 _ rfl w.heap.size 0 rfl (rowV L) dR HRL.out HDR.out hdr2 HSR.out ?_)
  clear HRL nzA eA hmA
  refine (HRW.out w5).mono ?_
  rintro e w6 ⟨rfl, b⟩
  have nl' := (b.block w.heap.size (by omega)).trans nl
  clear nl
  have nl := nl'
  clear nl'
  have nA' := (b.block mA (by omega)).trans nA
  clear nA
  have nA := nA'
  clear nA'
  have HB0 : Hid (Below w.heap.size w w6) := HB.out.trans (b.mono HB.out.size)
  clear HB
  have HB := HB0
  clear HB0
  have hszw6 := b.size
  clear b
  have nzB := heap_alloc_new w6 (.cells (cells noughts) 30)
  have bbB := below_box w6 (.cells (cells mk) 30)
  have nB := heap_alloc_new w6 (.cells (cells mk) 30)
  have eB := World.setRow_alloc_new w6 (cells noughts) (cells mk) 30
  obtain ⟨w7, hwB⟩ : ∃ wx, w6.alloc (.cells (cells mk) 30) = wx := ⟨_, rfl⟩
  rw [hwB] at bbB nB eB
  have hsB : w7.heap.size = w6.heap.size + 1 := by rw [← hwB]; simp
  have nl' := (bbB.block w.heap.size (by omega)).trans nl
  have nA' := (bbB.block mA (by omega)).trans nA
  have HBB : Hid (Below w.heap.size w w7) := HB.out.trans (bbB.mono HB.out.size)
  clear HB
  have HB := HBB
  clear HBB bbB hwB
  clear nl
  have nl := nl'
  clear nl'
  clear nA
  have nA := nA'
  clear nA'
  obtain ⟨mB, hmB⟩ : ∃ m, w6.heap.size = m := ⟨_, rfl⟩
  rw [hmB] at nzB nB eB hsB
  have hleB : w.heap.size < mB := by omega
  have hltB0 : w.heap.size < mB := by omega
  have hltB1 : mA < mB := by omega
  have HCA := Lib.hid (block_cells hmk nA)
  have HCB := Lib.hid (block_cells hmk nB)
  go_wp2_with (first
    | (refine wpList_store_full rfl _ _ rfl mB mk rfl rfl hmk _ _ nzB rfl ?_; rw [eB])
    | refine wpList_load_sector rfl _ rfl mA 0 mk rfl hmk HCA.out ?_
    | refine wpList_load_full rfl _ rfl mB 0 mk rfl hmk HCB.out ?_)
  clear HCA HCB nzB eB hmB nB
  refine (HRD.out w7).mono ?_
  rintro e w8 ⟨rfl, b⟩
  have nl' := (b.block w.heap.size (by omega)).trans nl
  clear nl
  have nl := nl'
  clear nl'
  have nA' := (b.block mA (by omega)).trans nA
  clear nA
  have nA := nA'
  clear nA'
  have HB0 : Hid (Below w.heap.size w w8) := HB.out.trans (b.mono HB.out.size)
  clear HB
  have HB := HB0
  clear HB0
  have hszw8 := b.size
  clear b
  have nzC := heap_alloc_new w8 (.cells (cellsF zeroI) 82)
  have bbC := below_box w8 (.cells (cellsF L) 82)
  have nC := heap_alloc_new w8 (.cells (cellsF L) 82)
  have eC := World.setRow_alloc_new w8 (cellsF zeroI) (cellsF L) 82
  obtain ⟨w9, hwC⟩ : ∃ wx, w8.alloc (.cells (cellsF L) 82) = wx := ⟨_, rfl⟩
  rw [hwC] at bbC nC eC
  have hsC : w9.heap.size = w8.heap.size + 1 := by rw [← hwC]; simp
  have nl' := (bbC.block w.heap.size (by omega)).trans nl
  have nA' := (bbC.block mA (by omega)).trans nA
  have HBC : Hid (Below w.heap.size w w9) := HB.out.trans (bbC.mono HB.out.size)
  clear HB
  have HB := HBC
  clear HBC bbC hwC
  clear nl
  have nl := nl'
  clear nl'
  clear nA
  have nA := nA'
  clear nA'
  obtain ⟨mC, hmC⟩ : ∃ m, w8.heap.size = m := ⟨_, rfl⟩
  rw [hmC] at nzC nC eC hsC
  have hleC : w.heap.size < mC := by omega
  have hltC0 : w.heap.size < mC := by omega
  have hltC1 : mA < mC := by omega
  go_wp2_with (refine wpList_store_row rfl 82 _ _ rfl mC (cellsF L) rfl rfl _ _ nzC HSX.out HOLX.out HONX.out ?_; rw [eC])
  clear nzC eC hmC
  have HNC := Lib.hid nC
  have HNL := Lib.hid nl
  refine wp_region_quiet_below (by kernel_rfl) (by kernel_rfl) ?_
  repeat (first
    | (go_big_quiet_want; (refine quiet_load_row 82 _ rfl mC 0 (rowV L) dC rfl HDC.out hdc2 HSC.out (row_regrown HNC.out) ?_); go_simp; go_big_quiet_on)
    | (go_big_quiet_want; (refine quiet_load_row 80 _ rfl w.heap.size 0 (rowV L) dR rfl HDR.out hdr2 HSR.out (row_regrown HNL.out) ?_); go_simp; go_big_quiet_on)
    | go_big_quiet_step ((go_at_call 34; exact Calls.regrown_of (inode_own HIL.out _))))
  refine wpQuiet_nil (regrown_name fun w10 b => ?_)
  have nA' := (b.block mA (by omega)).trans nA
  clear nA
  have nA := nA'
  clear nA'
  have HB0 : Hid (Below w.heap.size w w10) := HB.out.trans (b.mono HB.out.size)
  clear HB
  have HB := HB0
  clear HB0
  have hszw10 := b.size
  clear b nC nl
  have HCA := Lib.hid (block_cells hmk nA)
  go_wp2_with (refine wpList_load_sector rfl _ rfl mA 0 mk rfl hmk HCA.out ?_)
  clear HCA
  refine (turn_any mk hmk hmkb a len cap bs _ (HBS.out.below HB.out) HBM.out).mono ?_
  rintro e w11 ⟨t, ht, hbt, rfl, b⟩
  have HB0 : Hid (Below w.heap.size w w11) := HB.out.trans (b.mono HB.out.size)
  clear HB
  have HB := HB0
  clear HB0
  have hszw11 := b.size
  clear b nA
  have herr := readI_err t
  have HIY0 := readI_isInode hbt
  have HRT := fun (W : World) => readInode_is t ht hbt W
  have HRR := fun (W : World) => rreadIno_is t ht hbt W
  obtain ⟨Y, hyl⟩ : ∃ x, (readI t).1 = x := ⟨_, rfl⟩
  rw [hyl] at HIY0 HRT HRR
  obtain ⟨re, hre⟩ : ∃ x, (readI t).2 = x := ⟨_, rfl⟩
  rw [hre] at herr HRT HRR
  have HRT' := Lib.hid HRT
  have HRR' := Lib.hid HRR
  have HIY := Lib.hid HIY0
  clear HRT HRR hyl hre HIY0
  have HYC := Lib.hid (HSZS.out.1 Y HIY.out.1)
  have HYR := Lib.hid (HSZS.out.2.1 Y HIY.out.1)
  have HYO := Lib.hid (cellsF_one Y)
  have HYS : Hid ((cellsF zeroI).size = (cellsF Y).size) := Lib.hid (by rw [cellsF_size, cellsF_size, HIY.out.1]; rfl)
  have nzD := heap_alloc_new w11 (.cells (cells noughts) 31)
  have bbD := below_box w11 (.cells (cells t) 31)
  have nD := heap_alloc_new w11 (.cells (cells t) 31)
  have eD := World.setRow_alloc_new w11 (cells noughts) (cells t) 31
  obtain ⟨w12, hwD⟩ : ∃ wx, w11.alloc (.cells (cells t) 31) = wx := ⟨_, rfl⟩
  rw [hwD] at bbD nD eD
  have hsD : w12.heap.size = w11.heap.size + 1 := by rw [← hwD]; simp
  have HBD : Hid (Below w.heap.size w w12) := HB.out.trans (bbD.mono HB.out.size)
  clear HB
  have HB := HBD
  clear HBD bbD hwD
  obtain ⟨mD, hmD⟩ : ∃ m, w11.heap.size = m := ⟨_, rfl⟩
  rw [hmD] at nzD nD eD hsD
  have hleD : w.heap.size < mD := by omega
  have HCD := Lib.hid (block_cells ht nD)
  go_wp2_with (first
    | (refine wpList_store_sector rfl _ _ rfl mD t rfl rfl ht _ _ nzD rfl ?_; rw [eD])
    | refine wpList_load_sector rfl _ rfl mD 0 t rfl ht HCD.out ?_)
  clear HCD nzD eD hmD
  refine (HRT'.out w12).mono ?_
  rintro e w13 ⟨rfl, b⟩
  have nD' := (b.block mD (by omega)).trans nD
  clear nD
  have nD := nD'
  clear nD'
  have HB0 : Hid (Below w.heap.size w w13) := HB.out.trans (b.mono HB.out.size)
  clear HB
  have HB := HB0
  clear HB0
  have hszw13 := b.size
  clear b
  have nzE := heap_alloc_new w13 (.cells (cellsF zeroI) 82)
  have bbE := below_box w13 (.cells (cellsF Y) 82)
  have nE := heap_alloc_new w13 (.cells (cellsF Y) 82)
  have eE := World.setRow_alloc_new w13 (cellsF zeroI) (cellsF Y) 82
  obtain ⟨w14, hwE⟩ : ∃ wx, w13.alloc (.cells (cellsF Y) 82) = wx := ⟨_, rfl⟩
  rw [hwE] at bbE nE eE
  have hsE : w14.heap.size = w13.heap.size + 1 := by rw [← hwE]; simp
  have nD' := (bbE.block mD (by omega)).trans nD
  have HBE : Hid (Below w.heap.size w w14) := HB.out.trans (bbE.mono HB.out.size)
  clear HB
  have HB := HBE
  clear HBE bbE hwE
  clear nD
  have nD := nD'
  clear nD'
  obtain ⟨mE, hmE⟩ : ∃ m, w13.heap.size = m := ⟨_, rfl⟩
  rw [hmE] at nzE nE eE hsE
  have hleE : w.heap.size < mE := by omega
  have hltE0 : mD < mE := by omega
  have HCD := Lib.hid (block_cells ht nD)
  go_wp2_with (first
    | (refine wpList_store_row rfl 82 _ _ rfl mE (cellsF Y) rfl rfl _ _ nzE HYC.out HYS.out HYO.out ?_; rw [eE])
    | refine wpList_load_sector rfl _ rfl mD 0 t rfl ht HCD.out ?_)
  clear HCD nzE eE hmE
  refine (HRR'.out w14).mono ?_
  rintro e w15 ⟨rfl, b⟩
  have nD' := (b.block mD (by omega)).trans nD
  clear nD
  have nD := nD'
  clear nD'
  have nE' := (b.block mE (by omega)).trans nE
  clear nE
  have nE := nE'
  clear nE'
  have HB0 : Hid (Below w.heap.size w w15) := HB.out.trans (b.mono HB.out.size)
  clear HB
  have HB := HB0
  clear HB0
  have hszw15 := b.size
  clear b
  have nzG := heap_alloc_new w15 (.cells (cellsF zeroI) 80)
  have bbG := below_box w15 (.cells (cellsF Y) 80)
  have nG := heap_alloc_new w15 (.cells (cellsF Y) 80)
  have eG := World.setRow_alloc_new w15 (cellsF zeroI) (cellsF Y) 80
  obtain ⟨w16, hwG⟩ : ∃ wx, w15.alloc (.cells (cellsF Y) 80) = wx := ⟨_, rfl⟩
  rw [hwG] at bbG nG eG
  have hsG : w16.heap.size = w15.heap.size + 1 := by rw [← hwG]; simp
  have nD' := (bbG.block mD (by omega)).trans nD
  have nE' := (bbG.block mE (by omega)).trans nE
  have HBG : Hid (Below w.heap.size w w16) := HB.out.trans (bbG.mono HB.out.size)
  clear HB
  have HB := HBG
  clear HBG bbG hwG
  clear nD
  have nD := nD'
  clear nD'
  clear nE
  have nE := nE'
  clear nE'
  obtain ⟨mG, hmG⟩ : ∃ m, w15.heap.size = m := ⟨_, rfl⟩
  rw [hmG] at nzG nG eG hsG
  have hleG : w.heap.size < mG := by omega
  have hltG0 : mD < mG := by omega
  have hltG1 : mE < mG := by omega
  go_wp2_with (refine wpList_store_row rfl 80 _ _ rfl mG (cellsF Y) rfl rfl _ _ nzG HYR.out HYS.out HYO.out ?_; rw [eG])
  clear nzG eG hmG
  have HNE := Lib.hid nE
  have HNG := Lib.hid nG
  have heqY := HSZS.out.2.2.2.2 Y HIY.out
  have HSC2 := Lib.hid (HSZS.out.2.2.1 Y HIY.out.1)
  have HSR2 := Lib.hid (HSZS.out.2.2.2.1 Y HIY.out.1)
  have hdt : decide ((0 : Int) = 0) = true := rfl
  have hdf : decide ((21 : Int) = 0) = false := rfl
  rcases herr with rfl | rfl
  all_goals
    refine wp_region_quiet_below (by kernel_rfl) (by kernel_rfl) ?_
    repeat (first
      | (go_big_quiet_want; (refine quiet_load_row 82 _ rfl mE 0 (rowV Y) dC rfl HDC.out hdc2 HSC2.out (row_regrown HNE.out) ?_); go_simp; go_big_quiet_on)
      | (go_big_quiet_want; (refine quiet_load_row 80 _ rfl mG 0 (rowV Y) dR rfl HDR.out hdr2 HSR2.out (row_regrown HNG.out) ?_); go_simp; go_big_quiet_on)
      | go_big_quiet_step ((go_at_call 34; exact Calls.regrown_of (inode_own HIY.out _))))
    refine wpQuiet_nil (regrown_name fun w17 b => ?_)
    go_wp2
    go_ret
    exact ⟨rfl, HB.out.trans (b.mono HB.out.size)⟩
set_option maxHeartbeats 6400000 in
theorem codecInodes_no (L : List FldD) (hil : IsInode L) (a : Option Addr) (len cap : Nat) (bs : List Nat) (w : World) (hb : Reads w a len bs) (hbm : len ≤ maxLen) (h0 : (writeI L).2 = 1) :
    Calls Try.prog 7 #[.agg (cellsF L), .slice a len cap] w fun e w' => e = .returned (.bool true) ∧ Below w.heap.size w w' := by
  have hz := zero_sector
  have hzf := zero_full
  have hzi := zero_inode
  have hzr := zero_rino
  have hmk := writeI_length _ hil
  have hmkb := writeI_bytes hil
  have hoke : okI L = false := by
    rcases writeI_err L with ⟨h1, h2⟩ | ⟨h1, h2⟩
    · rw [h0] at h1; cases h1
    · exact h2
  have HW0 := fun (W : World) => writeInode_is hil W
  have HR0 := fun (W : World) => rwriteIno_is hil W
  rw [h0] at HW0
  rw [hoke] at HR0
  obtain ⟨mk, hmke⟩ : ∃ x, (writeI L).1 = x := ⟨_, rfl⟩
  rw [hmke] at hmk hmkb HW0 HR0
  have HRD0 := fun (W : World) => readInode_is mk hmk hmkb W
  have hX15 := (readI_isInode hmkb).1
  obtain ⟨X, hxl⟩ : ∃ x, (readI mk).1 = x := ⟨_, rfl⟩
  obtain ⟨rx, hrx⟩ : ∃ x, (readI mk).2 = x := ⟨_, rfl⟩
  rw [hxl] at hX15
  rw [hxl, hrx] at HRD0
  have HWR := Lib.hid HW0
  have HRW := Lib.hid HR0
  have HRD := Lib.hid HRD0
  have hneq := run_neq_sector mk mk hmk hmk
  rw [decide_eq_true rfl, Bool.not_true] at hneq
  have HBS := Lib.hid hb
  have HBM := Lib.hid hbm
  have HIL := Lib.hid hil
  obtain ⟨dC, hdc1, hdc2⟩ := row_inode
  obtain ⟨dR, hdr1, hdr2⟩ := row_rino
  have HDC := Lib.hid hdc1
  have HDR := Lib.hid hdr1
  have SZV : ∀ l : List FldD, l.length = 15 → (Try.prog.info? 82).map (·.size) = some (rowV l).length := fun l hl => by unfold rowV; rw [List.length_map, hl]; exact size_inode
  have SZVR : ∀ l : List FldD, l.length = 15 → (Try.prog.info? 80).map (·.size) = some (rowV l).length := fun l hl => by unfold rowV; rw [List.length_map, hl]; exact size_rino
  have SZ : ∀ l : List FldD, l.length = 15 → (Try.prog.info? 82).map (·.size) = some (cellsF l).size := fun l hl => by rw [cellsF_size, hl]; exact size_inode
  have SZR : ∀ l : List FldD, l.length = 15 → (Try.prog.info? 80).map (·.size) = some (cellsF l).size := fun l hl => by rw [cellsF_size, hl]; exact size_rino
  have EQ : ∀ l : List FldD, IsInode l → ∀ w, (binOp .eql 82 (.agg (rowV l).toArray) (.agg (cellsF l))).run Try.prog w = .ok (.bool true) w := fun l hl w => eql_ino hl w
  have HSC := Lib.hid (SZV L hil.1)
  have HSR := Lib.hid (SZVR L hil.1)
  have HSX := Lib.hid (SZ X hX15)
  have HONX := Lib.hid (cellsF_one X)
  have HOLX : Hid ((cellsF zeroI).size = (cellsF X).size) := Lib.hid (by rw [cellsF_size, cellsF_size, hX15]; rfl)
  clear HW0 HR0 HRD0 hmke h0 hoke hil hb hbm hdc1 hdr1 hX15 hxl hrx
  have HSZS := Lib.hid (And.intro SZ (And.intro SZR (And.intro SZV (And.intro SZVR EQ))))
  clear SZ SZR SZV SZVR EQ
  have b0 := below_box w (.cells (cellsF L) 80)
  have nl := heap_alloc_new w (.cells (cellsF L) 80)
  obtain ⟨w1, hw1⟩ : ∃ x, w.alloc (.cells (cellsF L) 80) = x := ⟨_, rfl⟩
  have hs1 : w1.heap.size = w.heap.size + 1 := by rw [← hw1]; simp
  rw [hw1] at b0 nl
  have HB := Lib.hid b0
  clear b0
  go_enter Try.func7, Try.ntmps7
  go_wp2_with fail
  refine (awake5_true w1).mono ?_
  rintro e w2 ⟨rfl, b⟩
  have nl' := (b.block w.heap.size (by omega)).trans nl
  clear nl
  have nl := nl'
  clear nl'
  have HB0 : Hid (Below w.heap.size w w2) := HB.out.trans (b.mono HB.out.size)
  clear HB
  have HB := HB0
  clear HB0
  have hszw2 := b.size
  clear b
  clear hw1
  have HRL := Lib.hid (rowV_range nl)
  go_wp2_with (refine wpList_load_mid rfl 80 _ rfl w.heap.size 0 rfl (rowV L) dR HRL.out HDR.out hdr2 HSR.out ?_)
  clear HRL
  refine (inode_own HIL.out w2).mono ?_
  rintro e w3 ⟨rfl, b⟩
  have nl' := (b.block w.heap.size (by omega)).trans nl
  clear nl
  have nl := nl'
  clear nl'
  have HB0 : Hid (Below w.heap.size w w3) := HB.out.trans (b.mono HB.out.size)
  clear HB
  have HB := HB0
  clear HB0
  have hszw3 := b.size
  clear b
  go_wp2_with fail
  refine (HWR.out w3).mono ?_
  rintro e w4 ⟨rfl, b⟩
  have nl' := (b.block w.heap.size (by omega)).trans nl
  clear nl
  have nl := nl'
  clear nl'
  have HB0 : Hid (Below w.heap.size w w4) := HB.out.trans (b.mono HB.out.size)
  clear HB
  have HB := HB0
  clear HB0
  have hszw4 := b.size
  clear b
  have nzA := heap_alloc_new w4 (.cells (cells noughts) 31)
  have bbA := below_box w4 (.cells (cells mk) 31)
  have nA := heap_alloc_new w4 (.cells (cells mk) 31)
  have eA := World.setRow_alloc_new w4 (cells noughts) (cells mk) 31
  obtain ⟨w5, hwA⟩ : ∃ wx, w4.alloc (.cells (cells mk) 31) = wx := ⟨_, rfl⟩
  rw [hwA] at bbA nA eA
  have hsA : w5.heap.size = w4.heap.size + 1 := by rw [← hwA]; simp
  have nl' := (bbA.block w.heap.size (by omega)).trans nl
  have HBA : Hid (Below w.heap.size w w5) := HB.out.trans (bbA.mono HB.out.size)
  clear HB
  have HB := HBA
  clear HBA bbA hwA
  clear nl
  have nl := nl'
  clear nl'
  obtain ⟨mA, hmA⟩ : ∃ m, w4.heap.size = m := ⟨_, rfl⟩
  rw [hmA] at nzA nA eA hsA
  have hleA : w.heap.size < mA := by omega
  have hltA0 : w.heap.size < mA := by omega
  have HRL := Lib.hid (rowV_range nl)
  go_wp2_with (first
    | (refine wpList_store_sector rfl _ _ rfl mA mk rfl rfl hmk _ _ nzA rfl ?_; rw [eA])
    | refine wpList_load_mid rfl 80 _ rfl w.heap.size 0 rfl (rowV L) dR HRL.out HDR.out hdr2 HSR.out ?_)
  clear HRL nzA eA hmA
  refine (HRW.out w5).mono ?_
  rintro e w6 ⟨rfl, b⟩
  have nl' := (b.block w.heap.size (by omega)).trans nl
  clear nl
  have nl := nl'
  clear nl'
  have nA' := (b.block mA (by omega)).trans nA
  clear nA
  have nA := nA'
  clear nA'
  have HB0 : Hid (Below w.heap.size w w6) := HB.out.trans (b.mono HB.out.size)
  clear HB
  have HB := HB0
  clear HB0
  have hszw6 := b.size
  clear b
  have nzB := heap_alloc_new w6 (.cells (cells noughts) 30)
  have bbB := below_box w6 (.cells (cells mk) 30)
  have nB := heap_alloc_new w6 (.cells (cells mk) 30)
  have eB := World.setRow_alloc_new w6 (cells noughts) (cells mk) 30
  obtain ⟨w7, hwB⟩ : ∃ wx, w6.alloc (.cells (cells mk) 30) = wx := ⟨_, rfl⟩
  rw [hwB] at bbB nB eB
  have hsB : w7.heap.size = w6.heap.size + 1 := by rw [← hwB]; simp
  have nl' := (bbB.block w.heap.size (by omega)).trans nl
  have nA' := (bbB.block mA (by omega)).trans nA
  have HBB : Hid (Below w.heap.size w w7) := HB.out.trans (bbB.mono HB.out.size)
  clear HB
  have HB := HBB
  clear HBB bbB hwB
  clear nl
  have nl := nl'
  clear nl'
  clear nA
  have nA := nA'
  clear nA'
  obtain ⟨mB, hmB⟩ : ∃ m, w6.heap.size = m := ⟨_, rfl⟩
  rw [hmB] at nzB nB eB hsB
  have hleB : w.heap.size < mB := by omega
  have hltB0 : w.heap.size < mB := by omega
  have hltB1 : mA < mB := by omega
  have HCA := Lib.hid (block_cells hmk nA)
  have HCB := Lib.hid (block_cells hmk nB)
  go_wp2_with (first
    | (refine wpList_store_full rfl _ _ rfl mB mk rfl rfl hmk _ _ nzB rfl ?_; rw [eB])
    | refine wpList_load_sector rfl _ rfl mA 0 mk rfl hmk HCA.out ?_
    | refine wpList_load_full rfl _ rfl mB 0 mk rfl hmk HCB.out ?_)
  clear HCA HCB nzB eB hmB nB
  refine (HRD.out w7).mono ?_
  rintro e w8 ⟨rfl, b⟩
  have nl' := (b.block w.heap.size (by omega)).trans nl
  clear nl
  have nl := nl'
  clear nl'
  have nA' := (b.block mA (by omega)).trans nA
  clear nA
  have nA := nA'
  clear nA'
  have HB0 : Hid (Below w.heap.size w w8) := HB.out.trans (b.mono HB.out.size)
  clear HB
  have HB := HB0
  clear HB0
  have hszw8 := b.size
  clear b
  have nzC := heap_alloc_new w8 (.cells (cellsF zeroI) 82)
  have bbC := below_box w8 (.cells (cellsF X) 82)
  have nC := heap_alloc_new w8 (.cells (cellsF X) 82)
  have eC := World.setRow_alloc_new w8 (cellsF zeroI) (cellsF X) 82
  obtain ⟨w9, hwC⟩ : ∃ wx, w8.alloc (.cells (cellsF X) 82) = wx := ⟨_, rfl⟩
  rw [hwC] at bbC nC eC
  have hsC : w9.heap.size = w8.heap.size + 1 := by rw [← hwC]; simp
  have nl' := (bbC.block w.heap.size (by omega)).trans nl
  have nA' := (bbC.block mA (by omega)).trans nA
  have HBC : Hid (Below w.heap.size w w9) := HB.out.trans (bbC.mono HB.out.size)
  clear HB
  have HB := HBC
  clear HBC bbC hwC
  clear nl
  have nl := nl'
  clear nl'
  clear nA
  have nA := nA'
  clear nA'
  obtain ⟨mC, hmC⟩ : ∃ m, w8.heap.size = m := ⟨_, rfl⟩
  rw [hmC] at nzC nC eC hsC
  have hleC : w.heap.size < mC := by omega
  have hltC0 : w.heap.size < mC := by omega
  have hltC1 : mA < mC := by omega
  go_wp2_with (refine wpList_store_row rfl 82 _ _ rfl mC (cellsF X) rfl rfl _ _ nzC HSX.out HOLX.out HONX.out ?_; rw [eC])
  clear nzC eC hmC
  refine wp_region_quiet_below (by kernel_rfl) (by kernel_rfl) ?_
  repeat (go_big_quiet_step (fail))
  refine wpQuiet_nil (regrown_name fun w10 b => ?_)
  have nA' := (b.block mA (by omega)).trans nA
  clear nA
  have nA := nA'
  clear nA'
  have HB0 : Hid (Below w.heap.size w w10) := HB.out.trans (b.mono HB.out.size)
  clear HB
  have HB := HB0
  clear HB0
  have hszw10 := b.size
  clear b nC nl
  have HCA := Lib.hid (block_cells hmk nA)
  go_wp2_with (refine wpList_load_sector rfl _ rfl mA 0 mk rfl hmk HCA.out ?_)
  clear HCA
  refine (turn_any mk hmk hmkb a len cap bs _ (HBS.out.below HB.out) HBM.out).mono ?_
  rintro e w11 ⟨t, ht, hbt, rfl, b⟩
  have HB0 : Hid (Below w.heap.size w w11) := HB.out.trans (b.mono HB.out.size)
  clear HB
  have HB := HB0
  clear HB0
  have hszw11 := b.size
  clear b nA
  have herr := readI_err t
  have HIY0 := readI_isInode hbt
  have HRT := fun (W : World) => readInode_is t ht hbt W
  have HRR := fun (W : World) => rreadIno_is t ht hbt W
  obtain ⟨Y, hyl⟩ : ∃ x, (readI t).1 = x := ⟨_, rfl⟩
  rw [hyl] at HIY0 HRT HRR
  obtain ⟨re, hre⟩ : ∃ x, (readI t).2 = x := ⟨_, rfl⟩
  rw [hre] at herr HRT HRR
  have HRT' := Lib.hid HRT
  have HRR' := Lib.hid HRR
  have HIY := Lib.hid HIY0
  clear HRT HRR hyl hre HIY0
  have HYC := Lib.hid (HSZS.out.1 Y HIY.out.1)
  have HYR := Lib.hid (HSZS.out.2.1 Y HIY.out.1)
  have HYO := Lib.hid (cellsF_one Y)
  have HYS : Hid ((cellsF zeroI).size = (cellsF Y).size) := Lib.hid (by rw [cellsF_size, cellsF_size, HIY.out.1]; rfl)
  have nzD := heap_alloc_new w11 (.cells (cells noughts) 31)
  have bbD := below_box w11 (.cells (cells t) 31)
  have nD := heap_alloc_new w11 (.cells (cells t) 31)
  have eD := World.setRow_alloc_new w11 (cells noughts) (cells t) 31
  obtain ⟨w12, hwD⟩ : ∃ wx, w11.alloc (.cells (cells t) 31) = wx := ⟨_, rfl⟩
  rw [hwD] at bbD nD eD
  have hsD : w12.heap.size = w11.heap.size + 1 := by rw [← hwD]; simp
  have HBD : Hid (Below w.heap.size w w12) := HB.out.trans (bbD.mono HB.out.size)
  clear HB
  have HB := HBD
  clear HBD bbD hwD
  obtain ⟨mD, hmD⟩ : ∃ m, w11.heap.size = m := ⟨_, rfl⟩
  rw [hmD] at nzD nD eD hsD
  have hleD : w.heap.size < mD := by omega
  have HCD := Lib.hid (block_cells ht nD)
  go_wp2_with (first
    | (refine wpList_store_sector rfl _ _ rfl mD t rfl rfl ht _ _ nzD rfl ?_; rw [eD])
    | refine wpList_load_sector rfl _ rfl mD 0 t rfl ht HCD.out ?_)
  clear HCD nzD eD hmD
  refine (HRT'.out w12).mono ?_
  rintro e w13 ⟨rfl, b⟩
  have nD' := (b.block mD (by omega)).trans nD
  clear nD
  have nD := nD'
  clear nD'
  have HB0 : Hid (Below w.heap.size w w13) := HB.out.trans (b.mono HB.out.size)
  clear HB
  have HB := HB0
  clear HB0
  have hszw13 := b.size
  clear b
  have nzE := heap_alloc_new w13 (.cells (cellsF zeroI) 82)
  have bbE := below_box w13 (.cells (cellsF Y) 82)
  have nE := heap_alloc_new w13 (.cells (cellsF Y) 82)
  have eE := World.setRow_alloc_new w13 (cellsF zeroI) (cellsF Y) 82
  obtain ⟨w14, hwE⟩ : ∃ wx, w13.alloc (.cells (cellsF Y) 82) = wx := ⟨_, rfl⟩
  rw [hwE] at bbE nE eE
  have hsE : w14.heap.size = w13.heap.size + 1 := by rw [← hwE]; simp
  have nD' := (bbE.block mD (by omega)).trans nD
  have HBE : Hid (Below w.heap.size w w14) := HB.out.trans (bbE.mono HB.out.size)
  clear HB
  have HB := HBE
  clear HBE bbE hwE
  clear nD
  have nD := nD'
  clear nD'
  obtain ⟨mE, hmE⟩ : ∃ m, w13.heap.size = m := ⟨_, rfl⟩
  rw [hmE] at nzE nE eE hsE
  have hleE : w.heap.size < mE := by omega
  have hltE0 : mD < mE := by omega
  have HCD := Lib.hid (block_cells ht nD)
  go_wp2_with (first
    | (refine wpList_store_row rfl 82 _ _ rfl mE (cellsF Y) rfl rfl _ _ nzE HYC.out HYS.out HYO.out ?_; rw [eE])
    | refine wpList_load_sector rfl _ rfl mD 0 t rfl ht HCD.out ?_)
  clear HCD nzE eE hmE
  refine (HRR'.out w14).mono ?_
  rintro e w15 ⟨rfl, b⟩
  have nD' := (b.block mD (by omega)).trans nD
  clear nD
  have nD := nD'
  clear nD'
  have nE' := (b.block mE (by omega)).trans nE
  clear nE
  have nE := nE'
  clear nE'
  have HB0 : Hid (Below w.heap.size w w15) := HB.out.trans (b.mono HB.out.size)
  clear HB
  have HB := HB0
  clear HB0
  have hszw15 := b.size
  clear b
  have nzG := heap_alloc_new w15 (.cells (cellsF zeroI) 80)
  have bbG := below_box w15 (.cells (cellsF Y) 80)
  have nG := heap_alloc_new w15 (.cells (cellsF Y) 80)
  have eG := World.setRow_alloc_new w15 (cellsF zeroI) (cellsF Y) 80
  obtain ⟨w16, hwG⟩ : ∃ wx, w15.alloc (.cells (cellsF Y) 80) = wx := ⟨_, rfl⟩
  rw [hwG] at bbG nG eG
  have hsG : w16.heap.size = w15.heap.size + 1 := by rw [← hwG]; simp
  have nD' := (bbG.block mD (by omega)).trans nD
  have nE' := (bbG.block mE (by omega)).trans nE
  have HBG : Hid (Below w.heap.size w w16) := HB.out.trans (bbG.mono HB.out.size)
  clear HB
  have HB := HBG
  clear HBG bbG hwG
  clear nD
  have nD := nD'
  clear nD'
  clear nE
  have nE := nE'
  clear nE'
  obtain ⟨mG, hmG⟩ : ∃ m, w15.heap.size = m := ⟨_, rfl⟩
  rw [hmG] at nzG nG eG hsG
  have hleG : w.heap.size < mG := by omega
  have hltG0 : mD < mG := by omega
  have hltG1 : mE < mG := by omega
  go_wp2_with (refine wpList_store_row rfl 80 _ _ rfl mG (cellsF Y) rfl rfl _ _ nzG HYR.out HYS.out HYO.out ?_; rw [eG])
  clear nzG eG hmG
  have HNE := Lib.hid nE
  have HNG := Lib.hid nG
  have heqY := HSZS.out.2.2.2.2 Y HIY.out
  have HSC2 := Lib.hid (HSZS.out.2.2.1 Y HIY.out.1)
  have HSR2 := Lib.hid (HSZS.out.2.2.2.1 Y HIY.out.1)
  have hdt : decide ((0 : Int) = 0) = true := rfl
  have hdf : decide ((21 : Int) = 0) = false := rfl
  rcases herr with rfl | rfl
  all_goals
    refine wp_region_quiet_below (by kernel_rfl) (by kernel_rfl) ?_
    repeat (first
      | (go_big_quiet_want; (refine quiet_load_row 82 _ rfl mE 0 (rowV Y) dC rfl HDC.out hdc2 HSC2.out (row_regrown HNE.out) ?_); go_simp; go_big_quiet_on)
      | (go_big_quiet_want; (refine quiet_load_row 80 _ rfl mG 0 (rowV Y) dR rfl HDR.out hdr2 HSR2.out (row_regrown HNG.out) ?_); go_simp; go_big_quiet_on)
      | go_big_quiet_step ((go_at_call 34; exact Calls.regrown_of (inode_own HIY.out _))))
    refine wpQuiet_nil (regrown_name fun w17 b => ?_)
    go_wp2
    go_ret
    exact ⟨rfl, HB.out.trans (b.mono HB.out.size)⟩
end Go.Proofs.Ytpmfkamagdifgaa
