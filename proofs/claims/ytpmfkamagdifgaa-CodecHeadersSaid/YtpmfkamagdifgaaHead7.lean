/- The law CodecHeaders, walked. -/
import Derived.Test.YtpmfkamagdifgaaHead6
import Derived.Deep.DeepCutAuto
namespace Go.Proofs.Ytpmfkamagdifgaa
open Go.RowKit Go.Sort
set_option linter.unusedVariables false
set_option linter.unusedSimpArgs false
set_option maxRecDepth 100000

set_option maxHeartbeats 6400000 in
theorem codecHeaders_yes (z0 z1 z2 z3 z4 z5 : Int) (hk : (0 ≤ z0 ∧ z0 < 18446744073709551616) ∧ (0 ≤ z1 ∧ z1 < 18446744073709551616) ∧ I64 z2 ∧ I64 z3 ∧ I64 z4 ∧ (0 ≤ z5 ∧ z5 < 4294967296)) (a : Option Addr) (len cap : Nat) (bs : List Nat) (w : World) (hb : Reads w a len bs) (hbm : len ≤ maxLen) (h0 : (writeH [⟨.u64, 8, z0⟩, ⟨.u64, 8, z1⟩, ⟨.i64, 2, z2⟩, ⟨.i64, 2, z3⟩, ⟨.i64, 2, z4⟩, ⟨.u32, 4, z5⟩]).2 = 0) :
    Calls Try.prog 6 #[.agg #[.int .u64 z0, .int .u64 z1, .int .i64 z2, .int .i64 z3, .int .i64 z4, .int .u32 z5], .slice a len cap] w fun e w' => e = .returned (.bool true) ∧ Below w.heap.size w w' := by
  have hz := zero_sector
  have hzf := zero_full
  have hl := head_of_list z0 z1 z2 z3 z4 z5 hk
  have hmk := writeH_length _ hl
  have hmkb := writeH_bytes hl
  have hoke : headOk [⟨.u64, 8, z0⟩, ⟨.u64, 8, z1⟩, ⟨.i64, 2, z2⟩, ⟨.i64, 2, z3⟩, ⟨.i64, 2, z4⟩, ⟨.u32, 4, z5⟩] = true := by
    rcases writeH_err [⟨.u64, 8, z0⟩, ⟨.u64, 8, z1⟩, ⟨.i64, 2, z2⟩, ⟨.i64, 2, z3⟩, ⟨.i64, 2, z4⟩, ⟨.u32, 4, z5⟩] with ⟨h1, h2⟩ | ⟨h1, h2⟩
    · exact h2
    · rw [h0] at h1; cases h1
  have HW0 := fun (W : World) => writeHeader_is hl W
  have HR0 := fun (W : World) => rwriteHead_is hl W
  rw [h0, cellsF_head] at HW0
  rw [hoke, cellsF_head] at HR0
  have hrw := readH_writeH hl h0
  obtain ⟨mk, hmke⟩ : ∃ x, (writeH [⟨.u64, 8, z0⟩, ⟨.u64, 8, z1⟩, ⟨.i64, 2, z2⟩, ⟨.i64, 2, z3⟩, ⟨.i64, 2, z4⟩, ⟨.u32, 4, z5⟩]).1 = x := ⟨_, rfl⟩
  rw [hmke] at hmk hmkb HW0 HR0 hrw
  have HRD0 := fun (W : World) => readHeader_is mk hmk hmkb W
  rw [hrw, cellsF_head] at HRD0
  have HWR := Lib.hid HW0
  have HRW := Lib.hid HR0
  have HRD := Lib.hid HRD0
  have hneq := run_neq_sector mk mk hmk hmk
  rw [decide_eq_true rfl, Bool.not_true] at hneq
  have HBS := Lib.hid hb
  have HBM := Lib.hid hbm
  clear HW0 HR0 HRD0 hmke h0 hoke hl hb hbm hk hrw
  have b0 := below_box w (.cells #[.int .u64 z0, .int .u64 z1, .int .i64 z2, .int .i64 z3, .int .i64 z4, .int .u32 z5] 69)
  have nl := heap_alloc_new w (.cells #[.int .u64 z0, .int .u64 z1, .int .i64 z2, .int .i64 z3, .int .i64 z4, .int .u32 z5] 69)
  obtain ⟨w1, hw1⟩ : ∃ x, w.alloc (.cells #[.int .u64 z0, .int .u64 z1, .int .i64 z2, .int .i64 z3, .int .i64 z4, .int .u32 z5] 69) = x := ⟨_, rfl⟩
  have hs1 : w1.heap.size = w.heap.size + 1 := by rw [← hw1]; simp
  rw [hw1] at b0 nl
  have HB := Lib.hid b0
  clear b0
  go_enter Try.func6, Try.ntmps6
  go_wp2_with fail
  refine (awake5_true w1).mono ?_
  rintro e w2 ⟨rfl, b⟩
  have nl' := (b.block w.heap.size (by omega)).trans nl
  clear nl
  have nl := nl'
  clear nl'
  have HB0 : Hid (Below w.heap.size w w2) := HB.out.trans (b.mono HB.out.size)
  clear HB
  have HB := HB0
  clear HB0
  have hszw2 := b.size
  clear b
  clear hw1
  have nl_0 : w2.cell? ⟨w.heap.size, 0, none⟩ = some (.int .u64 z0) := (cell_of_row nl 0).trans rfl
  have nl_1 : w2.cell? ⟨w.heap.size, 1, none⟩ = some (.int .u64 z1) := (cell_of_row nl 1).trans rfl
  have nl_2 : w2.cell? ⟨w.heap.size, 2, none⟩ = some (.int .i64 z2) := (cell_of_row nl 2).trans rfl
  have nl_3 : w2.cell? ⟨w.heap.size, 3, none⟩ = some (.int .i64 z3) := (cell_of_row nl 3).trans rfl
  have nl_4 : w2.cell? ⟨w.heap.size, 4, none⟩ = some (.int .i64 z4) := (cell_of_row nl 4).trans rfl
  have nl_5 : w2.cell? ⟨w.heap.size, 5, none⟩ = some (.int .u32 z5) := (cell_of_row nl 5).trans rfl
  have hszw := hszw2
  have nzO := heap_alloc_new w2 (.cells #[.int .u64 z0, .int .u64 z1, .int .i64 z2, .int .i64 z3, .int .i64 z4, .int .u32 z5] 70)
  have bbO := below_box w2 (.cells #[.int .u64 z0, .int .u64 z1, .int .i64 z2, .int .i64 z3, .int .i64 z4, .int .u32 z5] 70)
  have nO := heap_alloc_new w2 (.cells #[.int .u64 z0, .int .u64 z1, .int .i64 z2, .int .i64 z3, .int .i64 z4, .int .u32 z5] 70)
  have eO := World.setRow_alloc_new w2 #[.int .u64 z0, .int .u64 z1, .int .i64 z2, .int .i64 z3, .int .i64 z4, .int .u32 z5] #[.int .u64 z0, .int .u64 z1, .int .i64 z2, .int .i64 z3, .int .i64 z4, .int .u32 z5] 70
  obtain ⟨w3, hwO⟩ : ∃ wx, w2.alloc (.cells #[.int .u64 z0, .int .u64 z1, .int .i64 z2, .int .i64 z3, .int .i64 z4, .int .u32 z5] 70) = wx := ⟨_, rfl⟩
  rw [hwO] at bbO nO eO
  have hsO : w3.heap.size = w2.heap.size + 1 := by rw [← hwO]; simp
  have nl' := (bbO.block w.heap.size (by omega)).trans nl
  have HBO : Hid (Below w.heap.size w w3) := HB.out.trans (bbO.mono HB.out.size)
  clear HB
  have HB := HBO
  clear HBO bbO
  clear nl
  have nl := nl'
  clear nl'
  obtain ⟨mO, hmO⟩ : ∃ m, w2.heap.size = m := ⟨_, rfl⟩
  rw [hmO] at nzO nO eO hsO
  have hleO : w.heap.size < mO := by omega
  have hltO0 : w.heap.size < mO := by omega
  clear nzO eO
  have nO_0 : w3.cell? ⟨mO, 0, none⟩ = some (.int .u64 z0) := (cell_of_row nO 0).trans rfl
  have nO_1 : w3.cell? ⟨mO, 1, none⟩ = some (.int .u64 z1) := (cell_of_row nO 1).trans rfl
  have nO_2 : w3.cell? ⟨mO, 2, none⟩ = some (.int .i64 z2) := (cell_of_row nO 2).trans rfl
  have nO_3 : w3.cell? ⟨mO, 3, none⟩ = some (.int .i64 z3) := (cell_of_row nO 3).trans rfl
  have nO_4 : w3.cell? ⟨mO, 4, none⟩ = some (.int .i64 z4) := (cell_of_row nO 4).trans rfl
  have nO_5 : w3.cell? ⟨mO, 5, none⟩ = some (.int .u32 z5) := (cell_of_row nO 5).trans rfl
  go_wp2_with fail
  clear hmO hwO
  clear nl_0 nl_1 nl_2 nl_3 nl_4 nl_5
  clear nO_0 nO_1 nO_2 nO_3 nO_4 nO_5
  refine (HWR.out w3).mono ?_
  rintro e w4 ⟨rfl, b⟩
  have nl' := (b.block w.heap.size (by omega)).trans nl
  clear nl
  have nl := nl'
  clear nl'
  have nO' := (b.block mO (by omega)).trans nO
  clear nO
  have nO := nO'
  clear nO'
  have HB0 : Hid (Below w.heap.size w w4) := HB.out.trans (b.mono HB.out.size)
  clear HB
  have HB := HB0
  clear HB0
  have hszw4 := b.size
  clear b
  have nzA := heap_alloc_new w4 (.cells (cells noughts) 31)
  have bbA := below_box w4 (.cells (cells mk) 31)
  have nA := heap_alloc_new w4 (.cells (cells mk) 31)
  have eA := World.setRow_alloc_new w4 (cells noughts) (cells mk) 31
  obtain ⟨w5, hwA⟩ : ∃ wx, w4.alloc (.cells (cells mk) 31) = wx := ⟨_, rfl⟩
  rw [hwA] at bbA nA eA
  have hsA : w5.heap.size = w4.heap.size + 1 := by rw [← hwA]; simp
  have nl' := (bbA.block w.heap.size (by omega)).trans nl
  have nO' := (bbA.block mO (by omega)).trans nO
  have HBA : Hid (Below w.heap.size w w5) := HB.out.trans (bbA.mono HB.out.size)
  clear HB
  have HB := HBA
  clear HBA bbA hwA
  clear nl
  have nl := nl'
  clear nl'
  clear nO
  have nO := nO'
  clear nO'
  obtain ⟨mA, hmA⟩ : ∃ m, w4.heap.size = m := ⟨_, rfl⟩
  rw [hmA] at nzA nA eA hsA
  have hleA : w.heap.size < mA := by omega
  have hltA0 : w.heap.size < mA := by omega
  have hltA1 : mO < mA := by omega
  have nl_0 : w5.cell? ⟨w.heap.size, 0, none⟩ = some (.int .u64 z0) := (cell_of_row nl 0).trans rfl
  have nl_1 : w5.cell? ⟨w.heap.size, 1, none⟩ = some (.int .u64 z1) := (cell_of_row nl 1).trans rfl
  have nl_2 : w5.cell? ⟨w.heap.size, 2, none⟩ = some (.int .i64 z2) := (cell_of_row nl 2).trans rfl
  have nl_3 : w5.cell? ⟨w.heap.size, 3, none⟩ = some (.int .i64 z3) := (cell_of_row nl 3).trans rfl
  have nl_4 : w5.cell? ⟨w.heap.size, 4, none⟩ = some (.int .i64 z4) := (cell_of_row nl 4).trans rfl
  have nl_5 : w5.cell? ⟨w.heap.size, 5, none⟩ = some (.int .u32 z5) := (cell_of_row nl 5).trans rfl
  go_wp2_with (refine wpList_store_sector rfl _ _ rfl mA mk rfl rfl hmk _ _ nzA rfl ?_; rw [eA])
  clear nzA eA hmA
  clear nl_0 nl_1 nl_2 nl_3 nl_4 nl_5
  refine (HRW.out w5).mono ?_
  rintro e w6 ⟨rfl, b⟩
  have nl' := (b.block w.heap.size (by omega)).trans nl
  clear nl
  have nl := nl'
  clear nl'
  have nO' := (b.block mO (by omega)).trans nO
  clear nO
  have nO := nO'
  clear nO'
  have nA' := (b.block mA (by omega)).trans nA
  clear nA
  have nA := nA'
  clear nA'
  have HB0 : Hid (Below w.heap.size w w6) := HB.out.trans (b.mono HB.out.size)
  clear HB
  have HB := HB0
  clear HB0
  have hszw6 := b.size
  clear b
  have nzB := heap_alloc_new w6 (.cells (cells noughts) 30)
  have bbB := below_box w6 (.cells (cells mk) 30)
  have nB := heap_alloc_new w6 (.cells (cells mk) 30)
  have eB := World.setRow_alloc_new w6 (cells noughts) (cells mk) 30
  obtain ⟨w7, hwB⟩ : ∃ wx, w6.alloc (.cells (cells mk) 30) = wx := ⟨_, rfl⟩
  rw [hwB] at bbB nB eB
  have hsB : w7.heap.size = w6.heap.size + 1 := by rw [← hwB]; simp
  have nl' := (bbB.block w.heap.size (by omega)).trans nl
  have nO' := (bbB.block mO (by omega)).trans nO
  have nA' := (bbB.block mA (by omega)).trans nA
  have HBB : Hid (Below w.heap.size w w7) := HB.out.trans (bbB.mono HB.out.size)
  clear HB
  have HB := HBB
  clear HBB bbB hwB
  clear nl
  have nl := nl'
  clear nl'
  clear nO
  have nO := nO'
  clear nO'
  clear nA
  have nA := nA'
  clear nA'
  obtain ⟨mB, hmB⟩ : ∃ m, w6.heap.size = m := ⟨_, rfl⟩
  rw [hmB] at nzB nB eB hsB
  have hleB : w.heap.size < mB := by omega
  have hltB0 : w.heap.size < mB := by omega
  have hltB1 : mO < mB := by omega
  have hltB2 : mA < mB := by omega
  have HCA := Lib.hid (block_cells hmk nA)
  have HCB := Lib.hid (block_cells hmk nB)
  go_wp2_with (first
    | (refine wpList_store_full rfl _ _ rfl mB mk rfl rfl hmk _ _ nzB rfl ?_; rw [eB])
    | refine wpList_load_sector rfl _ rfl mA 0 mk rfl hmk HCA.out ?_
    | refine wpList_load_full rfl _ rfl mB 0 mk rfl hmk HCB.out ?_)
  clear HCA HCB nzB eB hmB nB
  refine (HRD.out w7).mono ?_
  rintro e w8 ⟨rfl, b⟩
  have nl' := (b.block w.heap.size (by omega)).trans nl
  clear nl
  have nl := nl'
  clear nl'
  have nO' := (b.block mO (by omega)).trans nO
  clear nO
  have nO := nO'
  clear nO'
  have nA' := (b.block mA (by omega)).trans nA
  clear nA
  have nA := nA'
  clear nA'
  have HB0 : Hid (Below w.heap.size w w8) := HB.out.trans (b.mono HB.out.size)
  clear HB
  have HB := HB0
  clear HB0
  have hszw8 := b.size
  clear b
  have nzC := heap_alloc_new w8 (.cells #[.int .u64 z0, .int .u64 z1, .int .i64 z2, .int .i64 z3, .int .i64 z4, .int .u32 z5] 70)
  have bbC := below_box w8 (.cells #[.int .u64 z0, .int .u64 z1, .int .i64 z2, .int .i64 z3, .int .i64 z4, .int .u32 z5] 70)
  have nC := heap_alloc_new w8 (.cells #[.int .u64 z0, .int .u64 z1, .int .i64 z2, .int .i64 z3, .int .i64 z4, .int .u32 z5] 70)
  have eC := World.setRow_alloc_new w8 #[.int .u64 z0, .int .u64 z1, .int .i64 z2, .int .i64 z3, .int .i64 z4, .int .u32 z5] #[.int .u64 z0, .int .u64 z1, .int .i64 z2, .int .i64 z3, .int .i64 z4, .int .u32 z5] 70
  obtain ⟨w9, hwC⟩ : ∃ wx, w8.alloc (.cells #[.int .u64 z0, .int .u64 z1, .int .i64 z2, .int .i64 z3, .int .i64 z4, .int .u32 z5] 70) = wx := ⟨_, rfl⟩
  rw [hwC] at bbC nC eC
  have hsC : w9.heap.size = w8.heap.size + 1 := by rw [← hwC]; simp
  have nl' := (bbC.block w.heap.size (by omega)).trans nl
  have nO' := (bbC.block mO (by omega)).trans nO
  have nA' := (bbC.block mA (by omega)).trans nA
  have HBC : Hid (Below w.heap.size w w9) := HB.out.trans (bbC.mono HB.out.size)
  clear HB
  have HB := HBC
  clear HBC bbC
  clear nl
  have nl := nl'
  clear nl'
  clear nO
  have nO := nO'
  clear nO'
  clear nA
  have nA := nA'
  clear nA'
  obtain ⟨mC, hmC⟩ : ∃ m, w8.heap.size = m := ⟨_, rfl⟩
  rw [hmC] at nzC nC eC hsC
  have hleC : w.heap.size < mC := by omega
  have hltC0 : w.heap.size < mC := by omega
  have hltC1 : mO < mC := by omega
  have hltC2 : mA < mC := by omega
  clear nzC eC
  have nO_0 : w9.cell? ⟨mO, 0, none⟩ = some (.int .u64 z0) := (cell_of_row nO 0).trans rfl
  have nO_1 : w9.cell? ⟨mO, 1, none⟩ = some (.int .u64 z1) := (cell_of_row nO 1).trans rfl
  have nO_2 : w9.cell? ⟨mO, 2, none⟩ = some (.int .i64 z2) := (cell_of_row nO 2).trans rfl
  have nO_3 : w9.cell? ⟨mO, 3, none⟩ = some (.int .i64 z3) := (cell_of_row nO 3).trans rfl
  have nO_4 : w9.cell? ⟨mO, 4, none⟩ = some (.int .i64 z4) := (cell_of_row nO 4).trans rfl
  have nO_5 : w9.cell? ⟨mO, 5, none⟩ = some (.int .u32 z5) := (cell_of_row nO 5).trans rfl
  have nC_0 : w9.cell? ⟨mC, 0, none⟩ = some (.int .u64 z0) := (cell_of_row nC 0).trans rfl
  have nC_1 : w9.cell? ⟨mC, 1, none⟩ = some (.int .u64 z1) := (cell_of_row nC 1).trans rfl
  have nC_2 : w9.cell? ⟨mC, 2, none⟩ = some (.int .i64 z2) := (cell_of_row nC 2).trans rfl
  have nC_3 : w9.cell? ⟨mC, 3, none⟩ = some (.int .i64 z3) := (cell_of_row nC 3).trans rfl
  have nC_4 : w9.cell? ⟨mC, 4, none⟩ = some (.int .i64 z4) := (cell_of_row nC 4).trans rfl
  have nC_5 : w9.cell? ⟨mC, 5, none⟩ = some (.int .u32 z5) := (cell_of_row nC 5).trans rfl
  have HCA := Lib.hid (block_cells hmk nA)
  go_wp2_with (refine wpList_load_sector rfl _ rfl mA 0 mk rfl hmk HCA.out ?_)
  clear HCA hmC hwC nC nO nl
  clear nO_0 nO_1 nO_2 nO_3 nO_4 nO_5
  clear nC_0 nC_1 nC_2 nC_3 nC_4 nC_5
  refine (turn_any mk hmk hmkb a len cap bs _ (HBS.out.below HB.out) HBM.out).mono ?_
  rintro e w10 ⟨t, ht, hbt, rfl, b⟩
  have HB0 : Hid (Below w.heap.size w w10) := HB.out.trans (b.mono HB.out.size)
  clear HB
  have HB := HB0
  clear HB0
  have hszw10 := b.size
  clear b nA
  have herr := readH_err hbt
  obtain ⟨y0, y1, y2, y3, y4, y5, hyl, _⟩ := head_list (readH_isHead hbt)
  have HRT := fun (W : World) => readHeader_is t ht hbt W
  have HRR := fun (W : World) => rreadHead_is t ht hbt W
  rw [hyl, cellsF_head] at HRT HRR
  obtain ⟨re, hre⟩ : ∃ x, (readH t).2 = x := ⟨_, rfl⟩
  obtain ⟨ib, hib⟩ : ∃ x, isHead t = x := ⟨_, rfl⟩
  rw [hre, hib] at herr
  rw [hre] at HRT
  rw [hib] at HRR
  have HRT' := Lib.hid HRT
  have HRR' := Lib.hid HRR
  clear HRT HRR hyl hre hib
  have nzD := heap_alloc_new w10 (.cells (cells noughts) 31)
  have bbD := below_box w10 (.cells (cells t) 31)
  have nD := heap_alloc_new w10 (.cells (cells t) 31)
  have eD := World.setRow_alloc_new w10 (cells noughts) (cells t) 31
  obtain ⟨w11, hwD⟩ : ∃ wx, w10.alloc (.cells (cells t) 31) = wx := ⟨_, rfl⟩
  rw [hwD] at bbD nD eD
  have hsD : w11.heap.size = w10.heap.size + 1 := by rw [← hwD]; simp
  have HBD : Hid (Below w.heap.size w w11) := HB.out.trans (bbD.mono HB.out.size)
  clear HB
  have HB := HBD
  clear HBD bbD hwD
  obtain ⟨mD, hmD⟩ : ∃ m, w10.heap.size = m := ⟨_, rfl⟩
  rw [hmD] at nzD nD eD hsD
  have hleD : w.heap.size < mD := by omega
  have HCD := Lib.hid (block_cells ht nD)
  go_wp2_with (first
    | (refine wpList_store_sector rfl _ _ rfl mD t rfl rfl ht _ _ nzD rfl ?_; rw [eD])
    | refine wpList_load_sector rfl _ rfl mD 0 t rfl ht HCD.out ?_)
  clear HCD nzD eD hmD
  refine (HRT'.out w11).mono ?_
  rintro e w12 ⟨rfl, b⟩
  have nD' := (b.block mD (by omega)).trans nD
  clear nD
  have nD := nD'
  clear nD'
  have HB0 : Hid (Below w.heap.size w w12) := HB.out.trans (b.mono HB.out.size)
  clear HB
  have HB := HB0
  clear HB0
  have hszw12 := b.size
  clear b
  have nzE := heap_alloc_new w12 (.cells #[.int .u64 y0, .int .u64 y1, .int .i64 y2, .int .i64 y3, .int .i64 y4, .int .u32 y5] 70)
  have bbE := below_box w12 (.cells #[.int .u64 y0, .int .u64 y1, .int .i64 y2, .int .i64 y3, .int .i64 y4, .int .u32 y5] 70)
  have nE := heap_alloc_new w12 (.cells #[.int .u64 y0, .int .u64 y1, .int .i64 y2, .int .i64 y3, .int .i64 y4, .int .u32 y5] 70)
  have eE := World.setRow_alloc_new w12 #[.int .u64 y0, .int .u64 y1, .int .i64 y2, .int .i64 y3, .int .i64 y4, .int .u32 y5] #[.int .u64 y0, .int .u64 y1, .int .i64 y2, .int .i64 y3, .int .i64 y4, .int .u32 y5] 70
  obtain ⟨w13, hwE⟩ : ∃ wx, w12.alloc (.cells #[.int .u64 y0, .int .u64 y1, .int .i64 y2, .int .i64 y3, .int .i64 y4, .int .u32 y5] 70) = wx := ⟨_, rfl⟩
  rw [hwE] at bbE nE eE
  have hsE : w13.heap.size = w12.heap.size + 1 := by rw [← hwE]; simp
  have nD' := (bbE.block mD (by omega)).trans nD
  have HBE : Hid (Below w.heap.size w w13) := HB.out.trans (bbE.mono HB.out.size)
  clear HB
  have HB := HBE
  clear HBE bbE
  clear nD
  have nD := nD'
  clear nD'
  obtain ⟨mE, hmE⟩ : ∃ m, w12.heap.size = m := ⟨_, rfl⟩
  rw [hmE] at nzE nE eE hsE
  have hleE : w.heap.size < mE := by omega
  have hltE0 : mD < mE := by omega
  clear nzE eE
  have HCD := Lib.hid (block_cells ht nD)
  go_wp2_with (refine wpList_load_sector rfl _ rfl mD 0 t rfl ht HCD.out ?_)
  clear HCD hmE hwE
  refine (HRR'.out w13).mono ?_
  rintro e w14 ⟨rfl, b⟩
  have nD' := (b.block mD (by omega)).trans nD
  clear nD
  have nD := nD'
  clear nD'
  have nE' := (b.block mE (by omega)).trans nE
  clear nE
  have nE := nE'
  clear nE'
  have HB0 : Hid (Below w.heap.size w w14) := HB.out.trans (b.mono HB.out.size)
  clear HB
  have HB := HB0
  clear HB0
  have hszw14 := b.size
  clear b
  have nzG := heap_alloc_new w14 (.cells #[.int .u64 y0, .int .u64 y1, .int .i64 y2, .int .i64 y3, .int .i64 y4, .int .u32 y5] 69)
  have bbG := below_box w14 (.cells #[.int .u64 y0, .int .u64 y1, .int .i64 y2, .int .i64 y3, .int .i64 y4, .int .u32 y5] 69)
  have nG := heap_alloc_new w14 (.cells #[.int .u64 y0, .int .u64 y1, .int .i64 y2, .int .i64 y3, .int .i64 y4, .int .u32 y5] 69)
  have eG := World.setRow_alloc_new w14 #[.int .u64 y0, .int .u64 y1, .int .i64 y2, .int .i64 y3, .int .i64 y4, .int .u32 y5] #[.int .u64 y0, .int .u64 y1, .int .i64 y2, .int .i64 y3, .int .i64 y4, .int .u32 y5] 69
  obtain ⟨w15, hwG⟩ : ∃ wx, w14.alloc (.cells #[.int .u64 y0, .int .u64 y1, .int .i64 y2, .int .i64 y3, .int .i64 y4, .int .u32 y5] 69) = wx := ⟨_, rfl⟩
  rw [hwG] at bbG nG eG
  have hsG : w15.heap.size = w14.heap.size + 1 := by rw [← hwG]; simp
  have nD' := (bbG.block mD (by omega)).trans nD
  have nE' := (bbG.block mE (by omega)).trans nE
  have HBG : Hid (Below w.heap.size w w15) := HB.out.trans (bbG.mono HB.out.size)
  clear HB
  have HB := HBG
  clear HBG bbG
  clear nD
  have nD := nD'
  clear nD'
  clear nE
  have nE := nE'
  clear nE'
  obtain ⟨mG, hmG⟩ : ∃ m, w14.heap.size = m := ⟨_, rfl⟩
  rw [hmG] at nzG nG eG hsG
  have hleG : w.heap.size < mG := by omega
  have hltG0 : mD < mG := by omega
  have hltG1 : mE < mG := by omega
  clear nzG eG
  have nE_0 : w15.cell? ⟨mE, 0, none⟩ = some (.int .u64 y0) := (cell_of_row nE 0).trans rfl
  have nE_1 : w15.cell? ⟨mE, 1, none⟩ = some (.int .u64 y1) := (cell_of_row nE 1).trans rfl
  have nE_2 : w15.cell? ⟨mE, 2, none⟩ = some (.int .i64 y2) := (cell_of_row nE 2).trans rfl
  have nE_3 : w15.cell? ⟨mE, 3, none⟩ = some (.int .i64 y3) := (cell_of_row nE 3).trans rfl
  have nE_4 : w15.cell? ⟨mE, 4, none⟩ = some (.int .i64 y4) := (cell_of_row nE 4).trans rfl
  have nE_5 : w15.cell? ⟨mE, 5, none⟩ = some (.int .u32 y5) := (cell_of_row nE 5).trans rfl
  have nG_0 : w15.cell? ⟨mG, 0, none⟩ = some (.int .u64 y0) := (cell_of_row nG 0).trans rfl
  have nG_1 : w15.cell? ⟨mG, 1, none⟩ = some (.int .u64 y1) := (cell_of_row nG 1).trans rfl
  have nG_2 : w15.cell? ⟨mG, 2, none⟩ = some (.int .i64 y2) := (cell_of_row nG 2).trans rfl
  have nG_3 : w15.cell? ⟨mG, 3, none⟩ = some (.int .i64 y3) := (cell_of_row nG 3).trans rfl
  have nG_4 : w15.cell? ⟨mG, 4, none⟩ = some (.int .i64 y4) := (cell_of_row nG 4).trans rfl
  have nG_5 : w15.cell? ⟨mG, 5, none⟩ = some (.int .u32 y5) := (cell_of_row nG 5).trans rfl
  rcases herr with ⟨rfl, rfl⟩ | ⟨rfl, rfl⟩
  all_goals
    go_wp2
    go_ret
    exact ⟨rfl, HB.out⟩
set_option maxHeartbeats 6400000 in
theorem codecHeaders_no (z0 z1 z2 z3 z4 z5 : Int) (hk : (0 ≤ z0 ∧ z0 < 18446744073709551616) ∧ (0 ≤ z1 ∧ z1 < 18446744073709551616) ∧ I64 z2 ∧ I64 z3 ∧ I64 z4 ∧ (0 ≤ z5 ∧ z5 < 4294967296)) (a : Option Addr) (len cap : Nat) (bs : List Nat) (w : World) (hb : Reads w a len bs) (hbm : len ≤ maxLen) (h0 : (writeH [⟨.u64, 8, z0⟩, ⟨.u64, 8, z1⟩, ⟨.i64, 2, z2⟩, ⟨.i64, 2, z3⟩, ⟨.i64, 2, z4⟩, ⟨.u32, 4, z5⟩]).2 = 1) :
    Calls Try.prog 6 #[.agg #[.int .u64 z0, .int .u64 z1, .int .i64 z2, .int .i64 z3, .int .i64 z4, .int .u32 z5], .slice a len cap] w fun e w' => e = .returned (.bool true) ∧ Below w.heap.size w w' := by
  have hz := zero_sector
  have hzf := zero_full
  have hl := head_of_list z0 z1 z2 z3 z4 z5 hk
  have hmk := writeH_length _ hl
  have hmkb := writeH_bytes hl
  have hoke : headOk [⟨.u64, 8, z0⟩, ⟨.u64, 8, z1⟩, ⟨.i64, 2, z2⟩, ⟨.i64, 2, z3⟩, ⟨.i64, 2, z4⟩, ⟨.u32, 4, z5⟩] = false := by
    rcases writeH_err [⟨.u64, 8, z0⟩, ⟨.u64, 8, z1⟩, ⟨.i64, 2, z2⟩, ⟨.i64, 2, z3⟩, ⟨.i64, 2, z4⟩, ⟨.u32, 4, z5⟩] with ⟨h1, h2⟩ | ⟨h1, h2⟩
    · rw [h0] at h1; cases h1
    · exact h2
  have HW0 := fun (W : World) => writeHeader_is hl W
  have HR0 := fun (W : World) => rwriteHead_is hl W
  rw [h0, cellsF_head] at HW0
  rw [hoke, cellsF_head] at HR0
  obtain ⟨mk, hmke⟩ : ∃ x, (writeH [⟨.u64, 8, z0⟩, ⟨.u64, 8, z1⟩, ⟨.i64, 2, z2⟩, ⟨.i64, 2, z3⟩, ⟨.i64, 2, z4⟩, ⟨.u32, 4, z5⟩]).1 = x := ⟨_, rfl⟩
  rw [hmke] at hmk hmkb HW0 HR0
  have HRD0 := fun (W : World) => readHeader_is mk hmk hmkb W
  obtain ⟨x0, x1, x2, x3, x4, x5, hxl, _⟩ := head_list (readH_isHead hmkb)
  obtain ⟨rx, hrx⟩ : ∃ x, (readH mk).2 = x := ⟨_, rfl⟩
  rw [hxl, hrx, cellsF_head] at HRD0
  have HWR := Lib.hid HW0
  have HRW := Lib.hid HR0
  have HRD := Lib.hid HRD0
  have hneq := run_neq_sector mk mk hmk hmk
  rw [decide_eq_true rfl, Bool.not_true] at hneq
  have HBS := Lib.hid hb
  have HBM := Lib.hid hbm
  clear HW0 HR0 HRD0 hmke h0 hoke hl hb hbm hk hxl hrx
  have b0 := below_box w (.cells #[.int .u64 z0, .int .u64 z1, .int .i64 z2, .int .i64 z3, .int .i64 z4, .int .u32 z5] 69)
  have nl := heap_alloc_new w (.cells #[.int .u64 z0, .int .u64 z1, .int .i64 z2, .int .i64 z3, .int .i64 z4, .int .u32 z5] 69)
  obtain ⟨w1, hw1⟩ : ∃ x, w.alloc (.cells #[.int .u64 z0, .int .u64 z1, .int .i64 z2, .int .i64 z3, .int .i64 z4, .int .u32 z5] 69) = x := ⟨_, rfl⟩
  have hs1 : w1.heap.size = w.heap.size + 1 := by rw [← hw1]; simp
  rw [hw1] at b0 nl
  have HB := Lib.hid b0
  clear b0
  go_enter Try.func6, Try.ntmps6
  go_wp2_with fail
  refine (awake5_true w1).mono ?_
  rintro e w2 ⟨rfl, b⟩
  have nl' := (b.block w.heap.size (by omega)).trans nl
  clear nl
  have nl := nl'
  clear nl'
  have HB0 : Hid (Below w.heap.size w w2) := HB.out.trans (b.mono HB.out.size)
  clear HB
  have HB := HB0
  clear HB0
  have hszw2 := b.size
  clear b
  clear hw1
  have nl_0 : w2.cell? ⟨w.heap.size, 0, none⟩ = some (.int .u64 z0) := (cell_of_row nl 0).trans rfl
  have nl_1 : w2.cell? ⟨w.heap.size, 1, none⟩ = some (.int .u64 z1) := (cell_of_row nl 1).trans rfl
  have nl_2 : w2.cell? ⟨w.heap.size, 2, none⟩ = some (.int .i64 z2) := (cell_of_row nl 2).trans rfl
  have nl_3 : w2.cell? ⟨w.heap.size, 3, none⟩ = some (.int .i64 z3) := (cell_of_row nl 3).trans rfl
  have nl_4 : w2.cell? ⟨w.heap.size, 4, none⟩ = some (.int .i64 z4) := (cell_of_row nl 4).trans rfl
  have nl_5 : w2.cell? ⟨w.heap.size, 5, none⟩ = some (.int .u32 z5) := (cell_of_row nl 5).trans rfl
  have hszw := hszw2
  have nzO := heap_alloc_new w2 (.cells #[.int .u64 z0, .int .u64 z1, .int .i64 z2, .int .i64 z3, .int .i64 z4, .int .u32 z5] 70)
  have bbO := below_box w2 (.cells #[.int .u64 z0, .int .u64 z1, .int .i64 z2, .int .i64 z3, .int .i64 z4, .int .u32 z5] 70)
  have nO := heap_alloc_new w2 (.cells #[.int .u64 z0, .int .u64 z1, .int .i64 z2, .int .i64 z3, .int .i64 z4, .int .u32 z5] 70)
  have eO := World.setRow_alloc_new w2 #[.int .u64 z0, .int .u64 z1, .int .i64 z2, .int .i64 z3, .int .i64 z4, .int .u32 z5] #[.int .u64 z0, .int .u64 z1, .int .i64 z2, .int .i64 z3, .int .i64 z4, .int .u32 z5] 70
  obtain ⟨w3, hwO⟩ : ∃ wx, w2.alloc (.cells #[.int .u64 z0, .int .u64 z1, .int .i64 z2, .int .i64 z3, .int .i64 z4, .int .u32 z5] 70) = wx := ⟨_, rfl⟩
  rw [hwO] at bbO nO eO
  have hsO : w3.heap.size = w2.heap.size + 1 := by rw [← hwO]; simp
  have nl' := (bbO.block w.heap.size (by omega)).trans nl
  have HBO : Hid (Below w.heap.size w w3) := HB.out.trans (bbO.mono HB.out.size)
  clear HB
  have HB := HBO
  clear HBO bbO
  clear nl
  have nl := nl'
  clear nl'
  obtain ⟨mO, hmO⟩ : ∃ m, w2.heap.size = m := ⟨_, rfl⟩
  rw [hmO] at nzO nO eO hsO
  have hleO : w.heap.size < mO := by omega
  have hltO0 : w.heap.size < mO := by omega
  clear nzO eO
  have nO_0 : w3.cell? ⟨mO, 0, none⟩ = some (.int .u64 z0) := (cell_of_row nO 0).trans rfl
  have nO_1 : w3.cell? ⟨mO, 1, none⟩ = some (.int .u64 z1) := (cell_of_row nO 1).trans rfl
  have nO_2 : w3.cell? ⟨mO, 2, none⟩ = some (.int .i64 z2) := (cell_of_row nO 2).trans rfl
  have nO_3 : w3.cell? ⟨mO, 3, none⟩ = some (.int .i64 z3) := (cell_of_row nO 3).trans rfl
  have nO_4 : w3.cell? ⟨mO, 4, none⟩ = some (.int .i64 z4) := (cell_of_row nO 4).trans rfl
  have nO_5 : w3.cell? ⟨mO, 5, none⟩ = some (.int .u32 z5) := (cell_of_row nO 5).trans rfl
  go_wp2_with fail
  clear hmO hwO
  clear nl_0 nl_1 nl_2 nl_3 nl_4 nl_5
  clear nO_0 nO_1 nO_2 nO_3 nO_4 nO_5
  refine (HWR.out w3).mono ?_
  rintro e w4 ⟨rfl, b⟩
  have nl' := (b.block w.heap.size (by omega)).trans nl
  clear nl
  have nl := nl'
  clear nl'
  have nO' := (b.block mO (by omega)).trans nO
  clear nO
  have nO := nO'
  clear nO'
  have HB0 : Hid (Below w.heap.size w w4) := HB.out.trans (b.mono HB.out.size)
  clear HB
  have HB := HB0
  clear HB0
  have hszw4 := b.size
  clear b
  have nzA := heap_alloc_new w4 (.cells (cells noughts) 31)
  have bbA := below_box w4 (.cells (cells mk) 31)
  have nA := heap_alloc_new w4 (.cells (cells mk) 31)
  have eA := World.setRow_alloc_new w4 (cells noughts) (cells mk) 31
  obtain ⟨w5, hwA⟩ : ∃ wx, w4.alloc (.cells (cells mk) 31) = wx := ⟨_, rfl⟩
  rw [hwA] at bbA nA eA
  have hsA : w5.heap.size = w4.heap.size + 1 := by rw [← hwA]; simp
  have nl' := (bbA.block w.heap.size (by omega)).trans nl
  have nO' := (bbA.block mO (by omega)).trans nO
  have HBA : Hid (Below w.heap.size w w5) := HB.out.trans (bbA.mono HB.out.size)
  clear HB
  have HB := HBA
  clear HBA bbA hwA
  clear nl
  have nl := nl'
  clear nl'
  clear nO
  have nO := nO'
  clear nO'
  obtain ⟨mA, hmA⟩ : ∃ m, w4.heap.size = m := ⟨_, rfl⟩
  rw [hmA] at nzA nA eA hsA
  have hleA : w.heap.size < mA := by omega
  have hltA0 : w.heap.size < mA := by omega
  have hltA1 : mO < mA := by omega
  have nl_0 : w5.cell? ⟨w.heap.size, 0, none⟩ = some (.int .u64 z0) := (cell_of_row nl 0).trans rfl
  have nl_1 : w5.cell? ⟨w.heap.size, 1, none⟩ = some (.int .u64 z1) := (cell_of_row nl 1).trans rfl
  have nl_2 : w5.cell? ⟨w.heap.size, 2, none⟩ = some (.int .i64 z2) := (cell_of_row nl 2).trans rfl
  have nl_3 : w5.cell? ⟨w.heap.size, 3, none⟩ = some (.int .i64 z3) := (cell_of_row nl 3).trans rfl
  have nl_4 : w5.cell? ⟨w.heap.size, 4, none⟩ = some (.int .i64 z4) := (cell_of_row nl 4).trans rfl
  have nl_5 : w5.cell? ⟨w.heap.size, 5, none⟩ = some (.int .u32 z5) := (cell_of_row nl 5).trans rfl
  go_wp2_with (refine wpList_store_sector rfl _ _ rfl mA mk rfl rfl hmk _ _ nzA rfl ?_; rw [eA])
  clear nzA eA hmA
  clear nl_0 nl_1 nl_2 nl_3 nl_4 nl_5
  refine (HRW.out w5).mono ?_
  rintro e w6 ⟨rfl, b⟩
  have nl' := (b.block w.heap.size (by omega)).trans nl
  clear nl
  have nl := nl'
  clear nl'
  have nO' := (b.block mO (by omega)).trans nO
  clear nO
  have nO := nO'
  clear nO'
  have nA' := (b.block mA (by omega)).trans nA
  clear nA
  have nA := nA'
  clear nA'
  have HB0 : Hid (Below w.heap.size w w6) := HB.out.trans (b.mono HB.out.size)
  clear HB
  have HB := HB0
  clear HB0
  have hszw6 := b.size
  clear b
  have nzB := heap_alloc_new w6 (.cells (cells noughts) 30)
  have bbB := below_box w6 (.cells (cells mk) 30)
  have nB := heap_alloc_new w6 (.cells (cells mk) 30)
  have eB := World.setRow_alloc_new w6 (cells noughts) (cells mk) 30
  obtain ⟨w7, hwB⟩ : ∃ wx, w6.alloc (.cells (cells mk) 30) = wx := ⟨_, rfl⟩
  rw [hwB] at bbB nB eB
  have hsB : w7.heap.size = w6.heap.size + 1 := by rw [← hwB]; simp
  have nl' := (bbB.block w.heap.size (by omega)).trans nl
  have nO' := (bbB.block mO (by omega)).trans nO
  have nA' := (bbB.block mA (by omega)).trans nA
  have HBB : Hid (Below w.heap.size w w7) := HB.out.trans (bbB.mono HB.out.size)
  clear HB
  have HB := HBB
  clear HBB bbB hwB
  clear nl
  have nl := nl'
  clear nl'
  clear nO
  have nO := nO'
  clear nO'
  clear nA
  have nA := nA'
  clear nA'
  obtain ⟨mB, hmB⟩ : ∃ m, w6.heap.size = m := ⟨_, rfl⟩
  rw [hmB] at nzB nB eB hsB
  have hleB : w.heap.size < mB := by omega
  have hltB0 : w.heap.size < mB := by omega
  have hltB1 : mO < mB := by omega
  have hltB2 : mA < mB := by omega
  have HCA := Lib.hid (block_cells hmk nA)
  have HCB := Lib.hid (block_cells hmk nB)
  go_wp2_with (first
    | (refine wpList_store_full rfl _ _ rfl mB mk rfl rfl hmk _ _ nzB rfl ?_; rw [eB])
    | refine wpList_load_sector rfl _ rfl mA 0 mk rfl hmk HCA.out ?_
    | refine wpList_load_full rfl _ rfl mB 0 mk rfl hmk HCB.out ?_)
  clear HCA HCB nzB eB hmB nB
  refine (HRD.out w7).mono ?_
  rintro e w8 ⟨rfl, b⟩
  have nl' := (b.block w.heap.size (by omega)).trans nl
  clear nl
  have nl := nl'
  clear nl'
  have nO' := (b.block mO (by omega)).trans nO
  clear nO
  have nO := nO'
  clear nO'
  have nA' := (b.block mA (by omega)).trans nA
  clear nA
  have nA := nA'
  clear nA'
  have HB0 : Hid (Below w.heap.size w w8) := HB.out.trans (b.mono HB.out.size)
  clear HB
  have HB := HB0
  clear HB0
  have hszw8 := b.size
  clear b
  have nzC := heap_alloc_new w8 (.cells #[.int .u64 x0, .int .u64 x1, .int .i64 x2, .int .i64 x3, .int .i64 x4, .int .u32 x5] 70)
  have bbC := below_box w8 (.cells #[.int .u64 x0, .int .u64 x1, .int .i64 x2, .int .i64 x3, .int .i64 x4, .int .u32 x5] 70)
  have nC := heap_alloc_new w8 (.cells #[.int .u64 x0, .int .u64 x1, .int .i64 x2, .int .i64 x3, .int .i64 x4, .int .u32 x5] 70)
  have eC := World.setRow_alloc_new w8 #[.int .u64 x0, .int .u64 x1, .int .i64 x2, .int .i64 x3, .int .i64 x4, .int .u32 x5] #[.int .u64 x0, .int .u64 x1, .int .i64 x2, .int .i64 x3, .int .i64 x4, .int .u32 x5] 70
  obtain ⟨w9, hwC⟩ : ∃ wx, w8.alloc (.cells #[.int .u64 x0, .int .u64 x1, .int .i64 x2, .int .i64 x3, .int .i64 x4, .int .u32 x5] 70) = wx := ⟨_, rfl⟩
  rw [hwC] at bbC nC eC
  have hsC : w9.heap.size = w8.heap.size + 1 := by rw [← hwC]; simp
  have nl' := (bbC.block w.heap.size (by omega)).trans nl
  have nO' := (bbC.block mO (by omega)).trans nO
  have nA' := (bbC.block mA (by omega)).trans nA
  have HBC : Hid (Below w.heap.size w w9) := HB.out.trans (bbC.mono HB.out.size)
  clear HB
  have HB := HBC
  clear HBC bbC
  clear nl
  have nl := nl'
  clear nl'
  clear nO
  have nO := nO'
  clear nO'
  clear nA
  have nA := nA'
  clear nA'
  obtain ⟨mC, hmC⟩ : ∃ m, w8.heap.size = m := ⟨_, rfl⟩
  rw [hmC] at nzC nC eC hsC
  have hleC : w.heap.size < mC := by omega
  have hltC0 : w.heap.size < mC := by omega
  have hltC1 : mO < mC := by omega
  have hltC2 : mA < mC := by omega
  clear nzC eC
  have nO_0 : w9.cell? ⟨mO, 0, none⟩ = some (.int .u64 z0) := (cell_of_row nO 0).trans rfl
  have nO_1 : w9.cell? ⟨mO, 1, none⟩ = some (.int .u64 z1) := (cell_of_row nO 1).trans rfl
  have nO_2 : w9.cell? ⟨mO, 2, none⟩ = some (.int .i64 z2) := (cell_of_row nO 2).trans rfl
  have nO_3 : w9.cell? ⟨mO, 3, none⟩ = some (.int .i64 z3) := (cell_of_row nO 3).trans rfl
  have nO_4 : w9.cell? ⟨mO, 4, none⟩ = some (.int .i64 z4) := (cell_of_row nO 4).trans rfl
  have nO_5 : w9.cell? ⟨mO, 5, none⟩ = some (.int .u32 z5) := (cell_of_row nO 5).trans rfl
  have nC_0 : w9.cell? ⟨mC, 0, none⟩ = some (.int .u64 x0) := (cell_of_row nC 0).trans rfl
  have nC_1 : w9.cell? ⟨mC, 1, none⟩ = some (.int .u64 x1) := (cell_of_row nC 1).trans rfl
  have nC_2 : w9.cell? ⟨mC, 2, none⟩ = some (.int .i64 x2) := (cell_of_row nC 2).trans rfl
  have nC_3 : w9.cell? ⟨mC, 3, none⟩ = some (.int .i64 x3) := (cell_of_row nC 3).trans rfl
  have nC_4 : w9.cell? ⟨mC, 4, none⟩ = some (.int .i64 x4) := (cell_of_row nC 4).trans rfl
  have nC_5 : w9.cell? ⟨mC, 5, none⟩ = some (.int .u32 x5) := (cell_of_row nC 5).trans rfl
  have HCA := Lib.hid (block_cells hmk nA)
  go_wp2_with (refine wpList_load_sector rfl _ rfl mA 0 mk rfl hmk HCA.out ?_)
  clear HCA hmC hwC nC nO nl
  clear nO_0 nO_1 nO_2 nO_3 nO_4 nO_5
  clear nC_0 nC_1 nC_2 nC_3 nC_4 nC_5
  refine (turn_any mk hmk hmkb a len cap bs _ (HBS.out.below HB.out) HBM.out).mono ?_
  rintro e w10 ⟨t, ht, hbt, rfl, b⟩
  have HB0 : Hid (Below w.heap.size w w10) := HB.out.trans (b.mono HB.out.size)
  clear HB
  have HB := HB0
  clear HB0
  have hszw10 := b.size
  clear b nA
  have herr := readH_err hbt
  obtain ⟨y0, y1, y2, y3, y4, y5, hyl, _⟩ := head_list (readH_isHead hbt)
  have HRT := fun (W : World) => readHeader_is t ht hbt W
  have HRR := fun (W : World) => rreadHead_is t ht hbt W
  rw [hyl, cellsF_head] at HRT HRR
  obtain ⟨re, hre⟩ : ∃ x, (readH t).2 = x := ⟨_, rfl⟩
  obtain ⟨ib, hib⟩ : ∃ x, isHead t = x := ⟨_, rfl⟩
  rw [hre, hib] at herr
  rw [hre] at HRT
  rw [hib] at HRR
  have HRT' := Lib.hid HRT
  have HRR' := Lib.hid HRR
  clear HRT HRR hyl hre hib
  have nzD := heap_alloc_new w10 (.cells (cells noughts) 31)
  have bbD := below_box w10 (.cells (cells t) 31)
  have nD := heap_alloc_new w10 (.cells (cells t) 31)
  have eD := World.setRow_alloc_new w10 (cells noughts) (cells t) 31
  obtain ⟨w11, hwD⟩ : ∃ wx, w10.alloc (.cells (cells t) 31) = wx := ⟨_, rfl⟩
  rw [hwD] at bbD nD eD
  have hsD : w11.heap.size = w10.heap.size + 1 := by rw [← hwD]; simp
  have HBD : Hid (Below w.heap.size w w11) := HB.out.trans (bbD.mono HB.out.size)
  clear HB
  have HB := HBD
  clear HBD bbD hwD
  obtain ⟨mD, hmD⟩ : ∃ m, w10.heap.size = m := ⟨_, rfl⟩
  rw [hmD] at nzD nD eD hsD
  have hleD : w.heap.size < mD := by omega
  have HCD := Lib.hid (block_cells ht nD)
  go_wp2_with (first
    | (refine wpList_store_sector rfl _ _ rfl mD t rfl rfl ht _ _ nzD rfl ?_; rw [eD])
    | refine wpList_load_sector rfl _ rfl mD 0 t rfl ht HCD.out ?_)
  clear HCD nzD eD hmD
  refine (HRT'.out w11).mono ?_
  rintro e w12 ⟨rfl, b⟩
  have nD' := (b.block mD (by omega)).trans nD
  clear nD
  have nD := nD'
  clear nD'
  have HB0 : Hid (Below w.heap.size w w12) := HB.out.trans (b.mono HB.out.size)
  clear HB
  have HB := HB0
  clear HB0
  have hszw12 := b.size
  clear b
  have nzE := heap_alloc_new w12 (.cells #[.int .u64 y0, .int .u64 y1, .int .i64 y2, .int .i64 y3, .int .i64 y4, .int .u32 y5] 70)
  have bbE := below_box w12 (.cells #[.int .u64 y0, .int .u64 y1, .int .i64 y2, .int .i64 y3, .int .i64 y4, .int .u32 y5] 70)
  have nE := heap_alloc_new w12 (.cells #[.int .u64 y0, .int .u64 y1, .int .i64 y2, .int .i64 y3, .int .i64 y4, .int .u32 y5] 70)
  have eE := World.setRow_alloc_new w12 #[.int .u64 y0, .int .u64 y1, .int .i64 y2, .int .i64 y3, .int .i64 y4, .int .u32 y5] #[.int .u64 y0, .int .u64 y1, .int .i64 y2, .int .i64 y3, .int .i64 y4, .int .u32 y5] 70
  obtain ⟨w13, hwE⟩ : ∃ wx, w12.alloc (.cells #[.int .u64 y0, .int .u64 y1, .int .i64 y2, .int .i64 y3, .int .i64 y4, .int .u32 y5] 70) = wx := ⟨_, rfl⟩
  rw [hwE] at bbE nE eE
  have hsE : w13.heap.size = w12.heap.size + 1 := by rw [← hwE]; simp
  have nD' := (bbE.block mD (by omega)).trans nD
  have HBE : Hid (Below w.heap.size w w13) := HB.out.trans (bbE.mono HB.out.size)
  clear HB
  have HB := HBE
  clear HBE bbE
  clear nD
  have nD := nD'
  clear nD'
  obtain ⟨mE, hmE⟩ : ∃ m, w12.heap.size = m := ⟨_, rfl⟩
  rw [hmE] at nzE nE eE hsE
  have hleE : w.heap.size < mE := by omega
  have hltE0 : mD < mE := by omega
  clear nzE eE
  have HCD := Lib.hid (block_cells ht nD)
  go_wp2_with (refine wpList_load_sector rfl _ rfl mD 0 t rfl ht HCD.out ?_)
  clear HCD hmE hwE
  refine (HRR'.out w13).mono ?_
  rintro e w14 ⟨rfl, b⟩
  have nD' := (b.block mD (by omega)).trans nD
  clear nD
  have nD := nD'
  clear nD'
  have nE' := (b.block mE (by omega)).trans nE
  clear nE
  have nE := nE'
  clear nE'
  have HB0 : Hid (Below w.heap.size w w14) := HB.out.trans (b.mono HB.out.size)
  clear HB
  have HB := HB0
  clear HB0
  have hszw14 := b.size
  clear b
  have nzG := heap_alloc_new w14 (.cells #[.int .u64 y0, .int .u64 y1, .int .i64 y2, .int .i64 y3, .int .i64 y4, .int .u32 y5] 69)
  have bbG := below_box w14 (.cells #[.int .u64 y0, .int .u64 y1, .int .i64 y2, .int .i64 y3, .int .i64 y4, .int .u32 y5] 69)
  have nG := heap_alloc_new w14 (.cells #[.int .u64 y0, .int .u64 y1, .int .i64 y2, .int .i64 y3, .int .i64 y4, .int .u32 y5] 69)
  have eG := World.setRow_alloc_new w14 #[.int .u64 y0, .int .u64 y1, .int .i64 y2, .int .i64 y3, .int .i64 y4, .int .u32 y5] #[.int .u64 y0, .int .u64 y1, .int .i64 y2, .int .i64 y3, .int .i64 y4, .int .u32 y5] 69
  obtain ⟨w15, hwG⟩ : ∃ wx, w14.alloc (.cells #[.int .u64 y0, .int .u64 y1, .int .i64 y2, .int .i64 y3, .int .i64 y4, .int .u32 y5] 69) = wx := ⟨_, rfl⟩
  rw [hwG] at bbG nG eG
  have hsG : w15.heap.size = w14.heap.size + 1 := by rw [← hwG]; simp
  have nD' := (bbG.block mD (by omega)).trans nD
  have nE' := (bbG.block mE (by omega)).trans nE
  have HBG : Hid (Below w.heap.size w w15) := HB.out.trans (bbG.mono HB.out.size)
  clear HB
  have HB := HBG
  clear HBG bbG
  clear nD
  have nD := nD'
  clear nD'
  clear nE
  have nE := nE'
  clear nE'
  obtain ⟨mG, hmG⟩ : ∃ m, w14.heap.size = m := ⟨_, rfl⟩
  rw [hmG] at nzG nG eG hsG
  have hleG : w.heap.size < mG := by omega
  have hltG0 : mD < mG := by omega
  have hltG1 : mE < mG := by omega
  clear nzG eG
  have nE_0 : w15.cell? ⟨mE, 0, none⟩ = some (.int .u64 y0) := (cell_of_row nE 0).trans rfl
  have nE_1 : w15.cell? ⟨mE, 1, none⟩ = some (.int .u64 y1) := (cell_of_row nE 1).trans rfl
  have nE_2 : w15.cell? ⟨mE, 2, none⟩ = some (.int .i64 y2) := (cell_of_row nE 2).trans rfl
  have nE_3 : w15.cell? ⟨mE, 3, none⟩ = some (.int .i64 y3) := (cell_of_row nE 3).trans rfl
  have nE_4 : w15.cell? ⟨mE, 4, none⟩ = some (.int .i64 y4) := (cell_of_row nE 4).trans rfl
  have nE_5 : w15.cell? ⟨mE, 5, none⟩ = some (.int .u32 y5) := (cell_of_row nE 5).trans rfl
  have nG_0 : w15.cell? ⟨mG, 0, none⟩ = some (.int .u64 y0) := (cell_of_row nG 0).trans rfl
  have nG_1 : w15.cell? ⟨mG, 1, none⟩ = some (.int .u64 y1) := (cell_of_row nG 1).trans rfl
  have nG_2 : w15.cell? ⟨mG, 2, none⟩ = some (.int .i64 y2) := (cell_of_row nG 2).trans rfl
  have nG_3 : w15.cell? ⟨mG, 3, none⟩ = some (.int .i64 y3) := (cell_of_row nG 3).trans rfl
  have nG_4 : w15.cell? ⟨mG, 4, none⟩ = some (.int .i64 y4) := (cell_of_row nG 4).trans rfl
  have nG_5 : w15.cell? ⟨mG, 5, none⟩ = some (.int .u32 y5) := (cell_of_row nG 5).trans rfl
  rcases herr with ⟨rfl, rfl⟩ | ⟨rfl, rfl⟩
  all_goals
    go_wp2
    go_ret
    exact ⟨rfl, HB.out⟩
end Go.Proofs.Ytpmfkamagdifgaa
