/- The law CodecPointers is true for every input: pointers are written just as the document says, and read back. No condition. -/
import Derived.Test.YtedhfgadphjobaaPtrEq
namespace Go.Proofs.Ytedhfgadphjobaa
open Go.ChangeShapes Go.WideShapes Go.ChangeAt Go.RowKit Go.Sort
set_option linter.unusedVariables false
set_option linter.unusedSimpArgs false
set_option maxRecDepth 100000

set_option maxHeartbeats 3200000 in
theorem codecPointers_yy {l : List FldD} (hl : IsPtr l) (a : Option Addr) (len cap : Nat) (bs : List Nat) (w : World) (hr : Reads w a len bs) (hbm : len ≤ maxLen) (hin : inP l) (hin2 : inP (rdP (fullL bs))) :
    Calls Try.prog 14 #[.agg (cellsF l), .slice a len cap] w fun e w' => e = .returned (.bool true) ∧ Below w.heap.size w w' := by
  have hz := zero_sector
  have hzf := zero_full
  have hzi := zero_ptr
  obtain ⟨d, hd1, hd2⟩ := row_ptr
  have hsz : ∀ l : List FldD, l.length = 32 → (Try.prog.info? 100).map (·.size) = some (rowV l).length := fun l hl => by unfold rowV; rw [List.length_map, hl]; exact size_ptr
  have hsz2 : ∀ l : List FldD, l.length = 32 → (Try.prog.info? 100).map (·.size) = some (cellsF l).size := fun l hl => by rw [cellsF_size, hl]; exact size_ptr
  have hsl := hsz l hl.1
  have hmk := writeP_length l hl
  have hmkb := writeP_bytes hl
  have hdec : decide (inP l) = true := decide_eq_true hin
  obtain ⟨mk, hmke⟩ : ∃ mk, (writeP l).1 = mk := ⟨_, rfl⟩
  rw [hmke] at hmk hmkb
  have here := (writeP_err l).1 hin
  obtain ⟨x, hxl⟩ : ∃ x, l = x := ⟨_, rfl⟩
  have hrw := readP_writeP hl hin
  have hrx : (readP mk).1 = x := by rw [← hmke, hrw, hxl]
  obtain ⟨er3, hre⟩ : ∃ er3, (readP mk).2 = er3 := ⟨_, rfl⟩
  obtain rfl : er3 = 0 := by rw [← hre, ← hmke, hrw]
  have hxp : IsPtr x := by rw [← hxl]; exact hl
  have hsx := hsz x hxp.1
  have hsx2 := hsz2 x hxp.1
  have honex := cellsF_one x
  have holdx : (cellsF zeroP).size = (cellsF x).size := by rw [cellsF_size, cellsF_size, hxp.1]; rfl
  have hneq := run_neq_sector mk mk hmk hmk
  rw [decide_eq_true rfl, Bool.not_true] at hneq
  have hneqx : ∀ v, (binOp .neq 100 (.agg (rowV x).toArray) (.agg (rowV l).toArray)).run Try.prog v = .ok (.bool false) v := fun v => by rw [← hxl]; exact run_neq_ptr hl v
  clear hxl
  have hany8 := fullL_length bs
  have hanyb := fullL_bytes hr.2.1
  obtain ⟨any, hany⟩ : ∃ any, fullL bs = any := ⟨_, rfl⟩
  rw [hany] at hany8 hanyb hin2
  have hre2 := (readP_err any).1 hin2
  have hdec2 : decide (inP (rdP any)) = true := decide_eq_true hin2
  have hyp := readP_isPtr hanyb
  obtain ⟨y, hry⟩ : ∃ y, (readP any).1 = y := ⟨_, rfl⟩
  rw [hry] at hyp
  have hsy := hsz y hyp.1
  have hsy2 := hsz2 y hyp.1
  have honey := cellsF_one y
  have holdy : (cellsF zeroP).size = (cellsF y).size := by rw [cellsF_size, cellsF_size, hyp.1]; rfl
  have heqy := run_eql_ptr hyp
  clear hsz hsz2 hin hin2
  have b0 := below_box w (.cells (cellsF l) 100)
  have nl := heap_alloc_new w (.cells (cellsF l) 100)
  obtain ⟨w1, hw1⟩ : ∃ x, w.alloc (.cells (cellsF l) 100) = x := ⟨_, rfl⟩
  have hs1 : w1.heap.size = w.heap.size + 1 := by rw [← hw1]; simp
  rw [hw1] at b0 nl
  have HB := Lib.hid b0
  clear b0
  go_enter Try.func14, Try.ntmps14
  go_wp2_with fail
  refine (awake5_true w1).mono ?_
  rintro e w2 ⟨rfl, b⟩
  have nl' := (b.block w.heap.size (by omega)).trans nl
  clear nl
  have nl := nl'
  clear nl'
  have HB0 : Hid (Below w.heap.size w w2) := HB.out.trans (b.mono HB.out.size)
  clear HB
  have HB := HB0
  clear HB0
  have hszw2 := b.size
  clear b
  clear hw1
  have hrl := rowV_range nl
  go_wp2_with (refine wpList_load_mid rfl 100 _ rfl w.heap.size 0 rfl (rowV l) d hrl hd1 hd2 hsl ?_)
  clear hrl
  refine (writePtr_is hl w2).mono ?_
  rintro e w3 ⟨rfl, b⟩
  have nl' := (b.block w.heap.size (by omega)).trans nl
  clear nl
  have nl := nl'
  clear nl'
  have HB0 : Hid (Below w.heap.size w w3) := HB.out.trans (b.mono HB.out.size)
  clear HB
  have HB := HB0
  clear HB0
  have hszw3 := b.size
  clear b
  rw [hmke, here]
  have nzA := heap_alloc_new w3 (.cells (cells noughts) 46)
  have bbA := below_box w3 (.cells (cells mk) 46)
  have nA := heap_alloc_new w3 (.cells (cells mk) 46)
  have eA := World.setRow_alloc_new w3 (cells noughts) (cells mk) 46
  obtain ⟨w4, hwA⟩ : ∃ wx, w3.alloc (.cells (cells mk) 46) = wx := ⟨_, rfl⟩
  rw [hwA] at bbA nA eA
  have hsA : w4.heap.size = w3.heap.size + 1 := by rw [← hwA]; simp
  have nl' := (bbA.block w.heap.size (by omega)).trans nl
  have HBA : Hid (Below w.heap.size w w4) := HB.out.trans (bbA.mono HB.out.size)
  clear HB
  have HB := HBA
  clear HBA bbA hwA
  clear nl
  have nl := nl'
  clear nl'
  obtain ⟨mA, hmA⟩ : ∃ m, w3.heap.size = m := ⟨_, rfl⟩
  rw [hmA] at nzA nA eA hsA
  have hleA : w.heap.size < mA := by omega
  have hltA0 : w.heap.size < mA := by omega
  have hrl := rowV_range nl
  go_wp2_with (first
    | (refine wpList_store_sector rfl _ _ rfl mA mk rfl rfl hmk _ _ nzA rfl ?_; rw [eA])
    | refine wpList_load_mid rfl 100 _ rfl w.heap.size 0 rfl (rowV l) d hrl hd1 hd2 hsl ?_)
  clear hrl nzA eA hmA
  refine (rwritePtr_is hl w4).mono ?_
  rintro e w5 ⟨rfl, b⟩
  have nl' := (b.block w.heap.size (by omega)).trans nl
  clear nl
  have nl := nl'
  clear nl'
  have nA' := (b.block mA (by omega)).trans nA
  clear nA
  have nA := nA'
  clear nA'
  have HB0 : Hid (Below w.heap.size w w5) := HB.out.trans (b.mono HB.out.size)
  clear HB
  have HB := HB0
  clear HB0
  have hszw5 := b.size
  clear b
  rw [hmke, hdec]
  have nzB := heap_alloc_new w5 (.cells (cells noughts) 45)
  have bbB := below_box w5 (.cells (cells mk) 45)
  have nB := heap_alloc_new w5 (.cells (cells mk) 45)
  have eB := World.setRow_alloc_new w5 (cells noughts) (cells mk) 45
  obtain ⟨w6, hwB⟩ : ∃ wx, w5.alloc (.cells (cells mk) 45) = wx := ⟨_, rfl⟩
  rw [hwB] at bbB nB eB
  have hsB : w6.heap.size = w5.heap.size + 1 := by rw [← hwB]; simp
  have nl' := (bbB.block w.heap.size (by omega)).trans nl
  have nA' := (bbB.block mA (by omega)).trans nA
  have HBB : Hid (Below w.heap.size w w6) := HB.out.trans (bbB.mono HB.out.size)
  clear HB
  have HB := HBB
  clear HBB bbB hwB
  clear nl
  have nl := nl'
  clear nl'
  clear nA
  have nA := nA'
  clear nA'
  obtain ⟨mB, hmB⟩ : ∃ m, w5.heap.size = m := ⟨_, rfl⟩
  rw [hmB] at nzB nB eB hsB
  have hleB : w.heap.size < mB := by omega
  have hltB0 : w.heap.size < mB := by omega
  have hltB1 : mA < mB := by omega
  have HCA := Lib.hid (block_cells hmk nA)
  have HCB := Lib.hid (block_cells hmk nB)
  go_wp2_with (first
    | (refine wpList_store_full rfl _ _ rfl mB mk rfl rfl hmk _ _ nzB rfl ?_; rw [eB])
    | refine wpList_load_sector rfl _ rfl mA 0 mk rfl hmk HCA.out ?_
    | refine wpList_load_full rfl _ rfl mB 0 mk rfl hmk HCB.out ?_)
  clear HCA HCB nzB eB hmB nB
  refine (readPtr_is mk hmk hmkb w6).mono ?_
  rintro e w7 ⟨rfl, b⟩
  have nl' := (b.block w.heap.size (by omega)).trans nl
  clear nl
  have nl := nl'
  clear nl'
  have nA' := (b.block mA (by omega)).trans nA
  clear nA
  have nA := nA'
  clear nA'
  have HB0 : Hid (Below w.heap.size w w7) := HB.out.trans (b.mono HB.out.size)
  clear HB
  have HB := HB0
  clear HB0
  have hszw7 := b.size
  clear b
  rw [hrx, hre]
  have nzC := heap_alloc_new w7 (.cells (cellsF zeroP) 100)
  have bbC := below_box w7 (.cells (cellsF x) 100)
  have nC := heap_alloc_new w7 (.cells (cellsF x) 100)
  have eC := World.setRow_alloc_new w7 (cellsF zeroP) (cellsF x) 100
  obtain ⟨w8, hwC⟩ : ∃ wx, w7.alloc (.cells (cellsF x) 100) = wx := ⟨_, rfl⟩
  rw [hwC] at bbC nC eC
  have hsC : w8.heap.size = w7.heap.size + 1 := by rw [← hwC]; simp
  have nl' := (bbC.block w.heap.size (by omega)).trans nl
  have nA' := (bbC.block mA (by omega)).trans nA
  have HBC : Hid (Below w.heap.size w w8) := HB.out.trans (bbC.mono HB.out.size)
  clear HB
  have HB := HBC
  clear HBC bbC hwC
  clear nl
  have nl := nl'
  clear nl'
  clear nA
  have nA := nA'
  clear nA'
  obtain ⟨mC, hmC⟩ : ∃ m, w7.heap.size = m := ⟨_, rfl⟩
  rw [hmC] at nzC nC eC hsC
  have hleC : w.heap.size < mC := by omega
  have hltC0 : w.heap.size < mC := by omega
  have hltC1 : mA < mC := by omega
  have hrl := rowV_range nl
  have hrc := rowV_range nC
  go_wp2_with (first
    | (refine wpList_store_row rfl 100 _ _ rfl mC (cellsF x) rfl rfl _ _ nzC hsx2 holdx honex ?_; rw [eC])
    | refine wpList_load_mid_want rfl 100 _ rfl mC 0 rfl (rowV x) d hrc hd1 hd2 hsx ?_
    | refine wpList_load_mid_want rfl 100 _ rfl w.heap.size 0 rfl (rowV l) d hrl hd1 hd2 hsl ?_)
  clear hrl hrc nzC eC hmC nC nA nl
  refine (full_any _ _ _ _ w8 (hr.below (HB.out)) hbm).mono ?_
  rintro e w9 ⟨rfl, b⟩
  have HB0 : Hid (Below w.heap.size w w9) := HB.out.trans (b.mono HB.out.size)
  clear HB
  have HB := HB0
  clear HB0
  have hszw9 := b.size
  clear b
  rw [hany]
  have nzD := heap_alloc_new w9 (.cells (cells noughts) 45)
  have bbD := below_box w9 (.cells (cells any) 45)
  have nD := heap_alloc_new w9 (.cells (cells any) 45)
  have eD := World.setRow_alloc_new w9 (cells noughts) (cells any) 45
  obtain ⟨w10, hwD⟩ : ∃ wx, w9.alloc (.cells (cells any) 45) = wx := ⟨_, rfl⟩
  rw [hwD] at bbD nD eD
  have hsD : w10.heap.size = w9.heap.size + 1 := by rw [← hwD]; simp
  have HBD : Hid (Below w.heap.size w w10) := HB.out.trans (bbD.mono HB.out.size)
  clear HB
  have HB := HBD
  clear HBD bbD hwD
  obtain ⟨mD, hmD⟩ : ∃ m, w9.heap.size = m := ⟨_, rfl⟩
  rw [hmD] at nzD nD eD hsD
  have hleD : w.heap.size < mD := by omega
  have HCD := Lib.hid (block_cells hany8 nD)
  go_wp2_with (first
    | (refine wpList_store_full rfl _ _ rfl mD any rfl rfl hany8 _ _ nzD rfl ?_; rw [eD])
    | refine wpList_load_full rfl _ rfl mD 0 any rfl hany8 HCD.out ?_)
  clear HCD nzD eD hmD
  refine (readPtr_is any hany8 hanyb w10).mono ?_
  rintro e w11 ⟨rfl, b⟩
  have nD' := (b.block mD (by omega)).trans nD
  clear nD
  have nD := nD'
  clear nD'
  have HB0 : Hid (Below w.heap.size w w11) := HB.out.trans (b.mono HB.out.size)
  clear HB
  have HB := HB0
  clear HB0
  have hszw11 := b.size
  clear b
  rw [hry, hre2]
  have nzE := heap_alloc_new w11 (.cells (cellsF zeroP) 100)
  have bbE := below_box w11 (.cells (cellsF y) 100)
  have nE := heap_alloc_new w11 (.cells (cellsF y) 100)
  have eE := World.setRow_alloc_new w11 (cellsF zeroP) (cellsF y) 100
  obtain ⟨w12, hwE⟩ : ∃ wx, w11.alloc (.cells (cellsF y) 100) = wx := ⟨_, rfl⟩
  rw [hwE] at bbE nE eE
  have hsE : w12.heap.size = w11.heap.size + 1 := by rw [← hwE]; simp
  have nD' := (bbE.block mD (by omega)).trans nD
  have HBE : Hid (Below w.heap.size w w12) := HB.out.trans (bbE.mono HB.out.size)
  clear HB
  have HB := HBE
  clear HBE bbE hwE
  clear nD
  have nD := nD'
  clear nD'
  obtain ⟨mE, hmE⟩ : ∃ m, w11.heap.size = m := ⟨_, rfl⟩
  rw [hmE] at nzE nE eE hsE
  have hleE : w.heap.size < mE := by omega
  have hltE0 : mD < mE := by omega
  have HCD := Lib.hid (block_cells hany8 nD)
  go_wp2_with (first
    | (refine wpList_store_row rfl 100 _ _ rfl mE (cellsF y) rfl rfl _ _ nzE hsy2 holdy honey ?_; rw [eE])
    | refine wpList_load_full rfl _ rfl mD 0 any rfl hany8 HCD.out ?_)
  clear HCD nzE eE hmE
  refine (rreadPtr_is any hany8 hanyb w12).mono ?_
  rintro e w13 ⟨rfl, b⟩
  have nD' := (b.block mD (by omega)).trans nD
  clear nD
  have nD := nD'
  clear nD'
  have nE' := (b.block mE (by omega)).trans nE
  clear nE
  have nE := nE'
  clear nE'
  have HB0 : Hid (Below w.heap.size w w13) := HB.out.trans (b.mono HB.out.size)
  clear HB
  have HB := HB0
  clear HB0
  have hszw13 := b.size
  clear b
  rw [hry, hdec2]
  have nzG := heap_alloc_new w13 (.cells (cellsF zeroP) 100)
  have bbG := below_box w13 (.cells (cellsF y) 100)
  have nG := heap_alloc_new w13 (.cells (cellsF y) 100)
  have eG := World.setRow_alloc_new w13 (cellsF zeroP) (cellsF y) 100
  obtain ⟨w14, hwG⟩ : ∃ wx, w13.alloc (.cells (cellsF y) 100) = wx := ⟨_, rfl⟩
  rw [hwG] at bbG nG eG
  have hsG : w14.heap.size = w13.heap.size + 1 := by rw [← hwG]; simp
  have nD' := (bbG.block mD (by omega)).trans nD
  have nE' := (bbG.block mE (by omega)).trans nE
  have HBG : Hid (Below w.heap.size w w14) := HB.out.trans (bbG.mono HB.out.size)
  clear HB
  have HB := HBG
  clear HBG bbG hwG
  clear nD
  have nD := nD'
  clear nD'
  clear nE
  have nE := nE'
  clear nE'
  obtain ⟨mG, hmG⟩ : ∃ m, w13.heap.size = m := ⟨_, rfl⟩
  rw [hmG] at nzG nG eG hsG
  have hleG : w.heap.size < mG := by omega
  have hltG0 : mD < mG := by omega
  have hltG1 : mE < mG := by omega
  have hre := rowV_range nE
  have hrg := rowV_range nG
  go_wp2_with (first
    | (refine wpList_store_row rfl 100 _ _ rfl mG (cellsF y) rfl rfl _ _ nzG hsy2 holdy honey ?_; rw [eG])
    | refine wpList_load_mid rfl 100 _ rfl mE 0 rfl (rowV y) d hre hd1 hd2 hsy ?_
    | refine wpList_load_mid rfl 100 _ rfl mG 0 rfl (rowV y) d hrg hd1 hd2 hsy ?_)
  go_ret
  exact ⟨rfl, HB.out⟩

set_option maxHeartbeats 3200000 in
theorem codecPointers_yn {l : List FldD} (hl : IsPtr l) (a : Option Addr) (len cap : Nat) (bs : List Nat) (w : World) (hr : Reads w a len bs) (hbm : len ≤ maxLen) (hin : inP l) (hin2 : ¬ inP (rdP (fullL bs))) :
    Calls Try.prog 14 #[.agg (cellsF l), .slice a len cap] w fun e w' => e = .returned (.bool true) ∧ Below w.heap.size w w' := by
  have hz := zero_sector
  have hzf := zero_full
  have hzi := zero_ptr
  obtain ⟨d, hd1, hd2⟩ := row_ptr
  have hsz : ∀ l : List FldD, l.length = 32 → (Try.prog.info? 100).map (·.size) = some (rowV l).length := fun l hl => by unfold rowV; rw [List.length_map, hl]; exact size_ptr
  have hsz2 : ∀ l : List FldD, l.length = 32 → (Try.prog.info? 100).map (·.size) = some (cellsF l).size := fun l hl => by rw [cellsF_size, hl]; exact size_ptr
  have hsl := hsz l hl.1
  have hmk := writeP_length l hl
  have hmkb := writeP_bytes hl
  have hdec : decide (inP l) = true := decide_eq_true hin
  obtain ⟨mk, hmke⟩ : ∃ mk, (writeP l).1 = mk := ⟨_, rfl⟩
  rw [hmke] at hmk hmkb
  have here := (writeP_err l).1 hin
  obtain ⟨x, hxl⟩ : ∃ x, l = x := ⟨_, rfl⟩
  have hrw := readP_writeP hl hin
  have hrx : (readP mk).1 = x := by rw [← hmke, hrw, hxl]
  obtain ⟨er3, hre⟩ : ∃ er3, (readP mk).2 = er3 := ⟨_, rfl⟩
  obtain rfl : er3 = 0 := by rw [← hre, ← hmke, hrw]
  have hxp : IsPtr x := by rw [← hxl]; exact hl
  have hsx := hsz x hxp.1
  have hsx2 := hsz2 x hxp.1
  have honex := cellsF_one x
  have holdx : (cellsF zeroP).size = (cellsF x).size := by rw [cellsF_size, cellsF_size, hxp.1]; rfl
  have hneq := run_neq_sector mk mk hmk hmk
  rw [decide_eq_true rfl, Bool.not_true] at hneq
  have hneqx : ∀ v, (binOp .neq 100 (.agg (rowV x).toArray) (.agg (rowV l).toArray)).run Try.prog v = .ok (.bool false) v := fun v => by rw [← hxl]; exact run_neq_ptr hl v
  clear hxl
  have hany8 := fullL_length bs
  have hanyb := fullL_bytes hr.2.1
  obtain ⟨any, hany⟩ : ∃ any, fullL bs = any := ⟨_, rfl⟩
  rw [hany] at hany8 hanyb hin2
  have hre2 := (readP_err any).2 hin2
  have hdec2 : decide (inP (rdP any)) = false := decide_eq_false hin2
  have hyp := readP_isPtr hanyb
  obtain ⟨y, hry⟩ : ∃ y, (readP any).1 = y := ⟨_, rfl⟩
  rw [hry] at hyp
  have hsy := hsz y hyp.1
  have hsy2 := hsz2 y hyp.1
  have honey := cellsF_one y
  have holdy : (cellsF zeroP).size = (cellsF y).size := by rw [cellsF_size, cellsF_size, hyp.1]; rfl
  have heqy := run_eql_ptr hyp
  clear hsz hsz2 hin hin2
  have b0 := below_box w (.cells (cellsF l) 100)
  have nl := heap_alloc_new w (.cells (cellsF l) 100)
  obtain ⟨w1, hw1⟩ : ∃ x, w.alloc (.cells (cellsF l) 100) = x := ⟨_, rfl⟩
  have hs1 : w1.heap.size = w.heap.size + 1 := by rw [← hw1]; simp
  rw [hw1] at b0 nl
  have HB := Lib.hid b0
  clear b0
  go_enter Try.func14, Try.ntmps14
  go_wp2_with fail
  refine (awake5_true w1).mono ?_
  rintro e w2 ⟨rfl, b⟩
  have nl' := (b.block w.heap.size (by omega)).trans nl
  clear nl
  have nl := nl'
  clear nl'
  have HB0 : Hid (Below w.heap.size w w2) := HB.out.trans (b.mono HB.out.size)
  clear HB
  have HB := HB0
  clear HB0
  have hszw2 := b.size
  clear b
  clear hw1
  have hrl := rowV_range nl
  go_wp2_with (refine wpList_load_mid rfl 100 _ rfl w.heap.size 0 rfl (rowV l) d hrl hd1 hd2 hsl ?_)
  clear hrl
  refine (writePtr_is hl w2).mono ?_
  rintro e w3 ⟨rfl, b⟩
  have nl' := (b.block w.heap.size (by omega)).trans nl
  clear nl
  have nl := nl'
  clear nl'
  have HB0 : Hid (Below w.heap.size w w3) := HB.out.trans (b.mono HB.out.size)
  clear HB
  have HB := HB0
  clear HB0
  have hszw3 := b.size
  clear b
  rw [hmke, here]
  have nzA := heap_alloc_new w3 (.cells (cells noughts) 46)
  have bbA := below_box w3 (.cells (cells mk) 46)
  have nA := heap_alloc_new w3 (.cells (cells mk) 46)
  have eA := World.setRow_alloc_new w3 (cells noughts) (cells mk) 46
  obtain ⟨w4, hwA⟩ : ∃ wx, w3.alloc (.cells (cells mk) 46) = wx := ⟨_, rfl⟩
  rw [hwA] at bbA nA eA
  have hsA : w4.heap.size = w3.heap.size + 1 := by rw [← hwA]; simp
  have nl' := (bbA.block w.heap.size (by omega)).trans nl
  have HBA : Hid (Below w.heap.size w w4) := HB.out.trans (bbA.mono HB.out.size)
  clear HB
  have HB := HBA
  clear HBA bbA hwA
  clear nl
  have nl := nl'
  clear nl'
  obtain ⟨mA, hmA⟩ : ∃ m, w3.heap.size = m := ⟨_, rfl⟩
  rw [hmA] at nzA nA eA hsA
  have hleA : w.heap.size < mA := by omega
  have hltA0 : w.heap.size < mA := by omega
  have hrl := rowV_range nl
  go_wp2_with (first
    | (refine wpList_store_sector rfl _ _ rfl mA mk rfl rfl hmk _ _ nzA rfl ?_; rw [eA])
    | refine wpList_load_mid rfl 100 _ rfl w.heap.size 0 rfl (rowV l) d hrl hd1 hd2 hsl ?_)
  clear hrl nzA eA hmA
  refine (rwritePtr_is hl w4).mono ?_
  rintro e w5 ⟨rfl, b⟩
  have nl' := (b.block w.heap.size (by omega)).trans nl
  clear nl
  have nl := nl'
  clear nl'
  have nA' := (b.block mA (by omega)).trans nA
  clear nA
  have nA := nA'
  clear nA'
  have HB0 : Hid (Below w.heap.size w w5) := HB.out.trans (b.mono HB.out.size)
  clear HB
  have HB := HB0
  clear HB0
  have hszw5 := b.size
  clear b
  rw [hmke, hdec]
  have nzB := heap_alloc_new w5 (.cells (cells noughts) 45)
  have bbB := below_box w5 (.cells (cells mk) 45)
  have nB := heap_alloc_new w5 (.cells (cells mk) 45)
  have eB := World.setRow_alloc_new w5 (cells noughts) (cells mk) 45
  obtain ⟨w6, hwB⟩ : ∃ wx, w5.alloc (.cells (cells mk) 45) = wx := ⟨_, rfl⟩
  rw [hwB] at bbB nB eB
  have hsB : w6.heap.size = w5.heap.size + 1 := by rw [← hwB]; simp
  have nl' := (bbB.block w.heap.size (by omega)).trans nl
  have nA' := (bbB.block mA (by omega)).trans nA
  have HBB : Hid (Below w.heap.size w w6) := HB.out.trans (bbB.mono HB.out.size)
  clear HB
  have HB := HBB
  clear HBB bbB hwB
  clear nl
  have nl := nl'
  clear nl'
  clear nA
  have nA := nA'
  clear nA'
  obtain ⟨mB, hmB⟩ : ∃ m, w5.heap.size = m := ⟨_, rfl⟩
  rw [hmB] at nzB nB eB hsB
  have hleB : w.heap.size < mB := by omega
  have hltB0 : w.heap.size < mB := by omega
  have hltB1 : mA < mB := by omega
  have HCA := Lib.hid (block_cells hmk nA)
  have HCB := Lib.hid (block_cells hmk nB)
  go_wp2_with (first
    | (refine wpList_store_full rfl _ _ rfl mB mk rfl rfl hmk _ _ nzB rfl ?_; rw [eB])
    | refine wpList_load_sector rfl _ rfl mA 0 mk rfl hmk HCA.out ?_
    | refine wpList_load_full rfl _ rfl mB 0 mk rfl hmk HCB.out ?_)
  clear HCA HCB nzB eB hmB nB
  refine (readPtr_is mk hmk hmkb w6).mono ?_
  rintro e w7 ⟨rfl, b⟩
  have nl' := (b.block w.heap.size (by omega)).trans nl
  clear nl
  have nl := nl'
  clear nl'
  have nA' := (b.block mA (by omega)).trans nA
  clear nA
  have nA := nA'
  clear nA'
  have HB0 : Hid (Below w.heap.size w w7) := HB.out.trans (b.mono HB.out.size)
  clear HB
  have HB := HB0
  clear HB0
  have hszw7 := b.size
  clear b
  rw [hrx, hre]
  have nzC := heap_alloc_new w7 (.cells (cellsF zeroP) 100)
  have bbC := below_box w7 (.cells (cellsF x) 100)
  have nC := heap_alloc_new w7 (.cells (cellsF x) 100)
  have eC := World.setRow_alloc_new w7 (cellsF zeroP) (cellsF x) 100
  obtain ⟨w8, hwC⟩ : ∃ wx, w7.alloc (.cells (cellsF x) 100) = wx := ⟨_, rfl⟩
  rw [hwC] at bbC nC eC
  have hsC : w8.heap.size = w7.heap.size + 1 := by rw [← hwC]; simp
  have nl' := (bbC.block w.heap.size (by omega)).trans nl
  have nA' := (bbC.block mA (by omega)).trans nA
  have HBC : Hid (Below w.heap.size w w8) := HB.out.trans (bbC.mono HB.out.size)
  clear HB
  have HB := HBC
  clear HBC bbC hwC
  clear nl
  have nl := nl'
  clear nl'
  clear nA
  have nA := nA'
  clear nA'
  obtain ⟨mC, hmC⟩ : ∃ m, w7.heap.size = m := ⟨_, rfl⟩
  rw [hmC] at nzC nC eC hsC
  have hleC : w.heap.size < mC := by omega
  have hltC0 : w.heap.size < mC := by omega
  have hltC1 : mA < mC := by omega
  have hrl := rowV_range nl
  have hrc := rowV_range nC
  go_wp2_with (first
    | (refine wpList_store_row rfl 100 _ _ rfl mC (cellsF x) rfl rfl _ _ nzC hsx2 holdx honex ?_; rw [eC])
    | refine wpList_load_mid_want rfl 100 _ rfl mC 0 rfl (rowV x) d hrc hd1 hd2 hsx ?_
    | refine wpList_load_mid_want rfl 100 _ rfl w.heap.size 0 rfl (rowV l) d hrl hd1 hd2 hsl ?_)
  clear hrl hrc nzC eC hmC nC nA nl
  refine (full_any _ _ _ _ w8 (hr.below (HB.out)) hbm).mono ?_
  rintro e w9 ⟨rfl, b⟩
  have HB0 : Hid (Below w.heap.size w w9) := HB.out.trans (b.mono HB.out.size)
  clear HB
  have HB := HB0
  clear HB0
  have hszw9 := b.size
  clear b
  rw [hany]
  have nzD := heap_alloc_new w9 (.cells (cells noughts) 45)
  have bbD := below_box w9 (.cells (cells any) 45)
  have nD := heap_alloc_new w9 (.cells (cells any) 45)
  have eD := World.setRow_alloc_new w9 (cells noughts) (cells any) 45
  obtain ⟨w10, hwD⟩ : ∃ wx, w9.alloc (.cells (cells any) 45) = wx := ⟨_, rfl⟩
  rw [hwD] at bbD nD eD
  have hsD : w10.heap.size = w9.heap.size + 1 := by rw [← hwD]; simp
  have HBD : Hid (Below w.heap.size w w10) := HB.out.trans (bbD.mono HB.out.size)
  clear HB
  have HB := HBD
  clear HBD bbD hwD
  obtain ⟨mD, hmD⟩ : ∃ m, w9.heap.size = m := ⟨_, rfl⟩
  rw [hmD] at nzD nD eD hsD
  have hleD : w.heap.size < mD := by omega
  have HCD := Lib.hid (block_cells hany8 nD)
  go_wp2_with (first
    | (refine wpList_store_full rfl _ _ rfl mD any rfl rfl hany8 _ _ nzD rfl ?_; rw [eD])
    | refine wpList_load_full rfl _ rfl mD 0 any rfl hany8 HCD.out ?_)
  clear HCD nzD eD hmD
  refine (readPtr_is any hany8 hanyb w10).mono ?_
  rintro e w11 ⟨rfl, b⟩
  have nD' := (b.block mD (by omega)).trans nD
  clear nD
  have nD := nD'
  clear nD'
  have HB0 : Hid (Below w.heap.size w w11) := HB.out.trans (b.mono HB.out.size)
  clear HB
  have HB := HB0
  clear HB0
  have hszw11 := b.size
  clear b
  rw [hry, hre2]
  have nzE := heap_alloc_new w11 (.cells (cellsF zeroP) 100)
  have bbE := below_box w11 (.cells (cellsF y) 100)
  have nE := heap_alloc_new w11 (.cells (cellsF y) 100)
  have eE := World.setRow_alloc_new w11 (cellsF zeroP) (cellsF y) 100
  obtain ⟨w12, hwE⟩ : ∃ wx, w11.alloc (.cells (cellsF y) 100) = wx := ⟨_, rfl⟩
  rw [hwE] at bbE nE eE
  have hsE : w12.heap.size = w11.heap.size + 1 := by rw [← hwE]; simp
  have nD' := (bbE.block mD (by omega)).trans nD
  have HBE : Hid (Below w.heap.size w w12) := HB.out.trans (bbE.mono HB.out.size)
  clear HB
  have HB := HBE
  clear HBE bbE hwE
  clear nD
  have nD := nD'
  clear nD'
  obtain ⟨mE, hmE⟩ : ∃ m, w11.heap.size = m := ⟨_, rfl⟩
  rw [hmE] at nzE nE eE hsE
  have hleE : w.heap.size < mE := by omega
  have hltE0 : mD < mE := by omega
  have HCD := Lib.hid (block_cells hany8 nD)
  go_wp2_with (first
    | (refine wpList_store_row rfl 100 _ _ rfl mE (cellsF y) rfl rfl _ _ nzE hsy2 holdy honey ?_; rw [eE])
    | refine wpList_load_full rfl _ rfl mD 0 any rfl hany8 HCD.out ?_)
  clear HCD nzE eE hmE
  refine (rreadPtr_is any hany8 hanyb w12).mono ?_
  rintro e w13 ⟨rfl, b⟩
  have nD' := (b.block mD (by omega)).trans nD
  clear nD
  have nD := nD'
  clear nD'
  have nE' := (b.block mE (by omega)).trans nE
  clear nE
  have nE := nE'
  clear nE'
  have HB0 : Hid (Below w.heap.size w w13) := HB.out.trans (b.mono HB.out.size)
  clear HB
  have HB := HB0
  clear HB0
  have hszw13 := b.size
  clear b
  rw [hry, hdec2]
  have nzG := heap_alloc_new w13 (.cells (cellsF zeroP) 100)
  have bbG := below_box w13 (.cells (cellsF y) 100)
  have nG := heap_alloc_new w13 (.cells (cellsF y) 100)
  have eG := World.setRow_alloc_new w13 (cellsF zeroP) (cellsF y) 100
  obtain ⟨w14, hwG⟩ : ∃ wx, w13.alloc (.cells (cellsF y) 100) = wx := ⟨_, rfl⟩
  rw [hwG] at bbG nG eG
  have hsG : w14.heap.size = w13.heap.size + 1 := by rw [← hwG]; simp
  have nD' := (bbG.block mD (by omega)).trans nD
  have nE' := (bbG.block mE (by omega)).trans nE
  have HBG : Hid (Below w.heap.size w w14) := HB.out.trans (bbG.mono HB.out.size)
  clear HB
  have HB := HBG
  clear HBG bbG hwG
  clear nD
  have nD := nD'
  clear nD'
  clear nE
  have nE := nE'
  clear nE'
  obtain ⟨mG, hmG⟩ : ∃ m, w13.heap.size = m := ⟨_, rfl⟩
  rw [hmG] at nzG nG eG hsG
  have hleG : w.heap.size < mG := by omega
  have hltG0 : mD < mG := by omega
  have hltG1 : mE < mG := by omega
  have hre := rowV_range nE
  have hrg := rowV_range nG
  go_wp2_with (first
    | (refine wpList_store_row rfl 100 _ _ rfl mG (cellsF y) rfl rfl _ _ nzG hsy2 holdy honey ?_; rw [eG])
    | refine wpList_load_mid rfl 100 _ rfl mE 0 rfl (rowV y) d hre hd1 hd2 hsy ?_
    | refine wpList_load_mid rfl 100 _ rfl mG 0 rfl (rowV y) d hrg hd1 hd2 hsy ?_)
  go_ret
  exact ⟨rfl, HB.out⟩

set_option maxHeartbeats 3200000 in
theorem codecPointers_ny {l : List FldD} (hl : IsPtr l) (a : Option Addr) (len cap : Nat) (bs : List Nat) (w : World) (hr : Reads w a len bs) (hbm : len ≤ maxLen) (hin : ¬ inP l) (hin2 : inP (rdP (fullL bs))) :
    Calls Try.prog 14 #[.agg (cellsF l), .slice a len cap] w fun e w' => e = .returned (.bool true) ∧ Below w.heap.size w w' := by
  have hz := zero_sector
  have hzf := zero_full
  have hzi := zero_ptr
  obtain ⟨d, hd1, hd2⟩ := row_ptr
  have hsz : ∀ l : List FldD, l.length = 32 → (Try.prog.info? 100).map (·.size) = some (rowV l).length := fun l hl => by unfold rowV; rw [List.length_map, hl]; exact size_ptr
  have hsz2 : ∀ l : List FldD, l.length = 32 → (Try.prog.info? 100).map (·.size) = some (cellsF l).size := fun l hl => by rw [cellsF_size, hl]; exact size_ptr
  have hsl := hsz l hl.1
  have hmk := writeP_length l hl
  have hmkb := writeP_bytes hl
  have hdec : decide (inP l) = false := decide_eq_false hin
  obtain ⟨mk, hmke⟩ : ∃ mk, (writeP l).1 = mk := ⟨_, rfl⟩
  rw [hmke] at hmk hmkb
  have here := (writeP_err l).2 hin
  obtain ⟨x, hrx⟩ : ∃ x, (readP mk).1 = x := ⟨_, rfl⟩
  obtain ⟨er3, hre⟩ : ∃ er3, (readP mk).2 = er3 := ⟨_, rfl⟩
  have hxp : IsPtr x := by rw [← hrx]; exact readP_isPtr hmkb
  have hsx := hsz x hxp.1
  have hsx2 := hsz2 x hxp.1
  have honex := cellsF_one x
  have holdx : (cellsF zeroP).size = (cellsF x).size := by rw [cellsF_size, cellsF_size, hxp.1]; rfl
  have hneq := run_neq_sector mk mk hmk hmk
  rw [decide_eq_true rfl, Bool.not_true] at hneq
  have hany8 := fullL_length bs
  have hanyb := fullL_bytes hr.2.1
  obtain ⟨any, hany⟩ : ∃ any, fullL bs = any := ⟨_, rfl⟩
  rw [hany] at hany8 hanyb hin2
  have hre2 := (readP_err any).1 hin2
  have hdec2 : decide (inP (rdP any)) = true := decide_eq_true hin2
  have hyp := readP_isPtr hanyb
  obtain ⟨y, hry⟩ : ∃ y, (readP any).1 = y := ⟨_, rfl⟩
  rw [hry] at hyp
  have hsy := hsz y hyp.1
  have hsy2 := hsz2 y hyp.1
  have honey := cellsF_one y
  have holdy : (cellsF zeroP).size = (cellsF y).size := by rw [cellsF_size, cellsF_size, hyp.1]; rfl
  have heqy := run_eql_ptr hyp
  clear hsz hsz2 hin hin2
  have b0 := below_box w (.cells (cellsF l) 100)
  have nl := heap_alloc_new w (.cells (cellsF l) 100)
  obtain ⟨w1, hw1⟩ : ∃ x, w.alloc (.cells (cellsF l) 100) = x := ⟨_, rfl⟩
  have hs1 : w1.heap.size = w.heap.size + 1 := by rw [← hw1]; simp
  rw [hw1] at b0 nl
  have HB := Lib.hid b0
  clear b0
  go_enter Try.func14, Try.ntmps14
  go_wp2_with fail
  refine (awake5_true w1).mono ?_
  rintro e w2 ⟨rfl, b⟩
  have nl' := (b.block w.heap.size (by omega)).trans nl
  clear nl
  have nl := nl'
  clear nl'
  have HB0 : Hid (Below w.heap.size w w2) := HB.out.trans (b.mono HB.out.size)
  clear HB
  have HB := HB0
  clear HB0
  have hszw2 := b.size
  clear b
  clear hw1
  have hrl := rowV_range nl
  go_wp2_with (refine wpList_load_mid rfl 100 _ rfl w.heap.size 0 rfl (rowV l) d hrl hd1 hd2 hsl ?_)
  clear hrl
  refine (writePtr_is hl w2).mono ?_
  rintro e w3 ⟨rfl, b⟩
  have nl' := (b.block w.heap.size (by omega)).trans nl
  clear nl
  have nl := nl'
  clear nl'
  have HB0 : Hid (Below w.heap.size w w3) := HB.out.trans (b.mono HB.out.size)
  clear HB
  have HB := HB0
  clear HB0
  have hszw3 := b.size
  clear b
  rw [hmke, here]
  have nzA := heap_alloc_new w3 (.cells (cells noughts) 46)
  have bbA := below_box w3 (.cells (cells mk) 46)
  have nA := heap_alloc_new w3 (.cells (cells mk) 46)
  have eA := World.setRow_alloc_new w3 (cells noughts) (cells mk) 46
  obtain ⟨w4, hwA⟩ : ∃ wx, w3.alloc (.cells (cells mk) 46) = wx := ⟨_, rfl⟩
  rw [hwA] at bbA nA eA
  have hsA : w4.heap.size = w3.heap.size + 1 := by rw [← hwA]; simp
  have nl' := (bbA.block w.heap.size (by omega)).trans nl
  have HBA : Hid (Below w.heap.size w w4) := HB.out.trans (bbA.mono HB.out.size)
  clear HB
  have HB := HBA
  clear HBA bbA hwA
  clear nl
  have nl := nl'
  clear nl'
  obtain ⟨mA, hmA⟩ : ∃ m, w3.heap.size = m := ⟨_, rfl⟩
  rw [hmA] at nzA nA eA hsA
  have hleA : w.heap.size < mA := by omega
  have hltA0 : w.heap.size < mA := by omega
  have hrl := rowV_range nl
  go_wp2_with (first
    | (refine wpList_store_sector rfl _ _ rfl mA mk rfl rfl hmk _ _ nzA rfl ?_; rw [eA])
    | refine wpList_load_mid rfl 100 _ rfl w.heap.size 0 rfl (rowV l) d hrl hd1 hd2 hsl ?_)
  clear hrl nzA eA hmA
  refine (rwritePtr_is hl w4).mono ?_
  rintro e w5 ⟨rfl, b⟩
  have nl' := (b.block w.heap.size (by omega)).trans nl
  clear nl
  have nl := nl'
  clear nl'
  have nA' := (b.block mA (by omega)).trans nA
  clear nA
  have nA := nA'
  clear nA'
  have HB0 : Hid (Below w.heap.size w w5) := HB.out.trans (b.mono HB.out.size)
  clear HB
  have HB := HB0
  clear HB0
  have hszw5 := b.size
  clear b
  rw [hmke, hdec]
  have nzB := heap_alloc_new w5 (.cells (cells noughts) 45)
  have bbB := below_box w5 (.cells (cells mk) 45)
  have nB := heap_alloc_new w5 (.cells (cells mk) 45)
  have eB := World.setRow_alloc_new w5 (cells noughts) (cells mk) 45
  obtain ⟨w6, hwB⟩ : ∃ wx, w5.alloc (.cells (cells mk) 45) = wx := ⟨_, rfl⟩
  rw [hwB] at bbB nB eB
  have hsB : w6.heap.size = w5.heap.size + 1 := by rw [← hwB]; simp
  have nl' := (bbB.block w.heap.size (by omega)).trans nl
  have nA' := (bbB.block mA (by omega)).trans nA
  have HBB : Hid (Below w.heap.size w w6) := HB.out.trans (bbB.mono HB.out.size)
  clear HB
  have HB := HBB
  clear HBB bbB hwB
  clear nl
  have nl := nl'
  clear nl'
  clear nA
  have nA := nA'
  clear nA'
  obtain ⟨mB, hmB⟩ : ∃ m, w5.heap.size = m := ⟨_, rfl⟩
  rw [hmB] at nzB nB eB hsB
  have hleB : w.heap.size < mB := by omega
  have hltB0 : w.heap.size < mB := by omega
  have hltB1 : mA < mB := by omega
  have HCA := Lib.hid (block_cells hmk nA)
  have HCB := Lib.hid (block_cells hmk nB)
  go_wp2_with (first
    | (refine wpList_store_full rfl _ _ rfl mB mk rfl rfl hmk _ _ nzB rfl ?_; rw [eB])
    | refine wpList_load_sector rfl _ rfl mA 0 mk rfl hmk HCA.out ?_
    | refine wpList_load_full rfl _ rfl mB 0 mk rfl hmk HCB.out ?_)
  clear HCA HCB nzB eB hmB nB
  refine (readPtr_is mk hmk hmkb w6).mono ?_
  rintro e w7 ⟨rfl, b⟩
  have nl' := (b.block w.heap.size (by omega)).trans nl
  clear nl
  have nl := nl'
  clear nl'
  have nA' := (b.block mA (by omega)).trans nA
  clear nA
  have nA := nA'
  clear nA'
  have HB0 : Hid (Below w.heap.size w w7) := HB.out.trans (b.mono HB.out.size)
  clear HB
  have HB := HB0
  clear HB0
  have hszw7 := b.size
  clear b
  rw [hrx, hre]
  have nzC := heap_alloc_new w7 (.cells (cellsF zeroP) 100)
  have bbC := below_box w7 (.cells (cellsF x) 100)
  have nC := heap_alloc_new w7 (.cells (cellsF x) 100)
  have eC := World.setRow_alloc_new w7 (cellsF zeroP) (cellsF x) 100
  obtain ⟨w8, hwC⟩ : ∃ wx, w7.alloc (.cells (cellsF x) 100) = wx := ⟨_, rfl⟩
  rw [hwC] at bbC nC eC
  have hsC : w8.heap.size = w7.heap.size + 1 := by rw [← hwC]; simp
  have nl' := (bbC.block w.heap.size (by omega)).trans nl
  have nA' := (bbC.block mA (by omega)).trans nA
  have HBC : Hid (Below w.heap.size w w8) := HB.out.trans (bbC.mono HB.out.size)
  clear HB
  have HB := HBC
  clear HBC bbC hwC
  clear nl
  have nl := nl'
  clear nl'
  clear nA
  have nA := nA'
  clear nA'
  obtain ⟨mC, hmC⟩ : ∃ m, w7.heap.size = m := ⟨_, rfl⟩
  rw [hmC] at nzC nC eC hsC
  have hleC : w.heap.size < mC := by omega
  have hltC0 : w.heap.size < mC := by omega
  have hltC1 : mA < mC := by omega
  have hrl := rowV_range nl
  have hrc := rowV_range nC
  go_wp2_with (first
    | (refine wpList_store_row rfl 100 _ _ rfl mC (cellsF x) rfl rfl _ _ nzC hsx2 holdx honex ?_; rw [eC])
    | refine wpList_load_mid_want rfl 100 _ rfl mC 0 rfl (rowV x) d hrc hd1 hd2 hsx ?_
    | refine wpList_load_mid_want rfl 100 _ rfl w.heap.size 0 rfl (rowV l) d hrl hd1 hd2 hsl ?_)
  clear hrl hrc nzC eC hmC nC nA nl
  refine (full_any _ _ _ _ w8 (hr.below (HB.out)) hbm).mono ?_
  rintro e w9 ⟨rfl, b⟩
  have HB0 : Hid (Below w.heap.size w w9) := HB.out.trans (b.mono HB.out.size)
  clear HB
  have HB := HB0
  clear HB0
  have hszw9 := b.size
  clear b
  rw [hany]
  have nzD := heap_alloc_new w9 (.cells (cells noughts) 45)
  have bbD := below_box w9 (.cells (cells any) 45)
  have nD := heap_alloc_new w9 (.cells (cells any) 45)
  have eD := World.setRow_alloc_new w9 (cells noughts) (cells any) 45
  obtain ⟨w10, hwD⟩ : ∃ wx, w9.alloc (.cells (cells any) 45) = wx := ⟨_, rfl⟩
  rw [hwD] at bbD nD eD
  have hsD : w10.heap.size = w9.heap.size + 1 := by rw [← hwD]; simp
  have HBD : Hid (Below w.heap.size w w10) := HB.out.trans (bbD.mono HB.out.size)
  clear HB
  have HB := HBD
  clear HBD bbD hwD
  obtain ⟨mD, hmD⟩ : ∃ m, w9.heap.size = m := ⟨_, rfl⟩
  rw [hmD] at nzD nD eD hsD
  have hleD : w.heap.size < mD := by omega
  have HCD := Lib.hid (block_cells hany8 nD)
  go_wp2_with (first
    | (refine wpList_store_full rfl _ _ rfl mD any rfl rfl hany8 _ _ nzD rfl ?_; rw [eD])
    | refine wpList_load_full rfl _ rfl mD 0 any rfl hany8 HCD.out ?_)
  clear HCD nzD eD hmD
  refine (readPtr_is any hany8 hanyb w10).mono ?_
  rintro e w11 ⟨rfl, b⟩
  have nD' := (b.block mD (by omega)).trans nD
  clear nD
  have nD := nD'
  clear nD'
  have HB0 : Hid (Below w.heap.size w w11) := HB.out.trans (b.mono HB.out.size)
  clear HB
  have HB := HB0
  clear HB0
  have hszw11 := b.size
  clear b
  rw [hry, hre2]
  have nzE := heap_alloc_new w11 (.cells (cellsF zeroP) 100)
  have bbE := below_box w11 (.cells (cellsF y) 100)
  have nE := heap_alloc_new w11 (.cells (cellsF y) 100)
  have eE := World.setRow_alloc_new w11 (cellsF zeroP) (cellsF y) 100
  obtain ⟨w12, hwE⟩ : ∃ wx, w11.alloc (.cells (cellsF y) 100) = wx := ⟨_, rfl⟩
  rw [hwE] at bbE nE eE
  have hsE : w12.heap.size = w11.heap.size + 1 := by rw [← hwE]; simp
  have nD' := (bbE.block mD (by omega)).trans nD
  have HBE : Hid (Below w.heap.size w w12) := HB.out.trans (bbE.mono HB.out.size)
  clear HB
  have HB := HBE
  clear HBE bbE hwE
  clear nD
  have nD := nD'
  clear nD'
  obtain ⟨mE, hmE⟩ : ∃ m, w11.heap.size = m := ⟨_, rfl⟩
  rw [hmE] at nzE nE eE hsE
  have hleE : w.heap.size < mE := by omega
  have hltE0 : mD < mE := by omega
  have HCD := Lib.hid (block_cells hany8 nD)
  go_wp2_with (first
    | (refine wpList_store_row rfl 100 _ _ rfl mE (cellsF y) rfl rfl _ _ nzE hsy2 holdy honey ?_; rw [eE])
    | refine wpList_load_full rfl _ rfl mD 0 any rfl hany8 HCD.out ?_)
  clear HCD nzE eE hmE
  refine (rreadPtr_is any hany8 hanyb w12).mono ?_
  rintro e w13 ⟨rfl, b⟩
  have nD' := (b.block mD (by omega)).trans nD
  clear nD
  have nD := nD'
  clear nD'
  have nE' := (b.block mE (by omega)).trans nE
  clear nE
  have nE := nE'
  clear nE'
  have HB0 : Hid (Below w.heap.size w w13) := HB.out.trans (b.mono HB.out.size)
  clear HB
  have HB := HB0
  clear HB0
  have hszw13 := b.size
  clear b
  rw [hry, hdec2]
  have nzG := heap_alloc_new w13 (.cells (cellsF zeroP) 100)
  have bbG := below_box w13 (.cells (cellsF y) 100)
  have nG := heap_alloc_new w13 (.cells (cellsF y) 100)
  have eG := World.setRow_alloc_new w13 (cellsF zeroP) (cellsF y) 100
  obtain ⟨w14, hwG⟩ : ∃ wx, w13.alloc (.cells (cellsF y) 100) = wx := ⟨_, rfl⟩
  rw [hwG] at bbG nG eG
  have hsG : w14.heap.size = w13.heap.size + 1 := by rw [← hwG]; simp
  have nD' := (bbG.block mD (by omega)).trans nD
  have nE' := (bbG.block mE (by omega)).trans nE
  have HBG : Hid (Below w.heap.size w w14) := HB.out.trans (bbG.mono HB.out.size)
  clear HB
  have HB := HBG
  clear HBG bbG hwG
  clear nD
  have nD := nD'
  clear nD'
  clear nE
  have nE := nE'
  clear nE'
  obtain ⟨mG, hmG⟩ : ∃ m, w13.heap.size = m := ⟨_, rfl⟩
  rw [hmG] at nzG nG eG hsG
  have hleG : w.heap.size < mG := by omega
  have hltG0 : mD < mG := by omega
  have hltG1 : mE < mG := by omega
  have hre := rowV_range nE
  have hrg := rowV_range nG
  go_wp2_with (first
    | (refine wpList_store_row rfl 100 _ _ rfl mG (cellsF y) rfl rfl _ _ nzG hsy2 holdy honey ?_; rw [eG])
    | refine wpList_load_mid rfl 100 _ rfl mE 0 rfl (rowV y) d hre hd1 hd2 hsy ?_
    | refine wpList_load_mid rfl 100 _ rfl mG 0 rfl (rowV y) d hrg hd1 hd2 hsy ?_)
  go_ret
  exact ⟨rfl, HB.out⟩

set_option maxHeartbeats 3200000 in
theorem codecPointers_nn {l : List FldD} (hl : IsPtr l) (a : Option Addr) (len cap : Nat) (bs : List Nat) (w : World) (hr : Reads w a len bs) (hbm : len ≤ maxLen) (hin : ¬ inP l) (hin2 : ¬ inP (rdP (fullL bs))) :
    Calls Try.prog 14 #[.agg (cellsF l), .slice a len cap] w fun e w' => e = .returned (.bool true) ∧ Below w.heap.size w w' := by
  have hz := zero_sector
  have hzf := zero_full
  have hzi := zero_ptr
  obtain ⟨d, hd1, hd2⟩ := row_ptr
  have hsz : ∀ l : List FldD, l.length = 32 → (Try.prog.info? 100).map (·.size) = some (rowV l).length := fun l hl => by unfold rowV; rw [List.length_map, hl]; exact size_ptr
  have hsz2 : ∀ l : List FldD, l.length = 32 → (Try.prog.info? 100).map (·.size) = some (cellsF l).size := fun l hl => by rw [cellsF_size, hl]; exact size_ptr
  have hsl := hsz l hl.1
  have hmk := writeP_length l hl
  have hmkb := writeP_bytes hl
  have hdec : decide (inP l) = false := decide_eq_false hin
  obtain ⟨mk, hmke⟩ : ∃ mk, (writeP l).1 = mk := ⟨_, rfl⟩
  rw [hmke] at hmk hmkb
  have here := (writeP_err l).2 hin
  obtain ⟨x, hrx⟩ : ∃ x, (readP mk).1 = x := ⟨_, rfl⟩
  obtain ⟨er3, hre⟩ : ∃ er3, (readP mk).2 = er3 := ⟨_, rfl⟩
  have hxp : IsPtr x := by rw [← hrx]; exact readP_isPtr hmkb
  have hsx := hsz x hxp.1
  have hsx2 := hsz2 x hxp.1
  have honex := cellsF_one x
  have holdx : (cellsF zeroP).size = (cellsF x).size := by rw [cellsF_size, cellsF_size, hxp.1]; rfl
  have hneq := run_neq_sector mk mk hmk hmk
  rw [decide_eq_true rfl, Bool.not_true] at hneq
  have hany8 := fullL_length bs
  have hanyb := fullL_bytes hr.2.1
  obtain ⟨any, hany⟩ : ∃ any, fullL bs = any := ⟨_, rfl⟩
  rw [hany] at hany8 hanyb hin2
  have hre2 := (readP_err any).2 hin2
  have hdec2 : decide (inP (rdP any)) = false := decide_eq_false hin2
  have hyp := readP_isPtr hanyb
  obtain ⟨y, hry⟩ : ∃ y, (readP any).1 = y := ⟨_, rfl⟩
  rw [hry] at hyp
  have hsy := hsz y hyp.1
  have hsy2 := hsz2 y hyp.1
  have honey := cellsF_one y
  have holdy : (cellsF zeroP).size = (cellsF y).size := by rw [cellsF_size, cellsF_size, hyp.1]; rfl
  have heqy := run_eql_ptr hyp
  clear hsz hsz2 hin hin2
  have b0 := below_box w (.cells (cellsF l) 100)
  have nl := heap_alloc_new w (.cells (cellsF l) 100)
  obtain ⟨w1, hw1⟩ : ∃ x, w.alloc (.cells (cellsF l) 100) = x := ⟨_, rfl⟩
  have hs1 : w1.heap.size = w.heap.size + 1 := by rw [← hw1]; simp
  rw [hw1] at b0 nl
  have HB := Lib.hid b0
  clear b0
  go_enter Try.func14, Try.ntmps14
  go_wp2_with fail
  refine (awake5_true w1).mono ?_
  rintro e w2 ⟨rfl, b⟩
  have nl' := (b.block w.heap.size (by omega)).trans nl
  clear nl
  have nl := nl'
  clear nl'
  have HB0 : Hid (Below w.heap.size w w2) := HB.out.trans (b.mono HB.out.size)
  clear HB
  have HB := HB0
  clear HB0
  have hszw2 := b.size
  clear b
  clear hw1
  have hrl := rowV_range nl
  go_wp2_with (refine wpList_load_mid rfl 100 _ rfl w.heap.size 0 rfl (rowV l) d hrl hd1 hd2 hsl ?_)
  clear hrl
  refine (writePtr_is hl w2).mono ?_
  rintro e w3 ⟨rfl, b⟩
  have nl' := (b.block w.heap.size (by omega)).trans nl
  clear nl
  have nl := nl'
  clear nl'
  have HB0 : Hid (Below w.heap.size w w3) := HB.out.trans (b.mono HB.out.size)
  clear HB
  have HB := HB0
  clear HB0
  have hszw3 := b.size
  clear b
  rw [hmke, here]
  have nzA := heap_alloc_new w3 (.cells (cells noughts) 46)
  have bbA := below_box w3 (.cells (cells mk) 46)
  have nA := heap_alloc_new w3 (.cells (cells mk) 46)
  have eA := World.setRow_alloc_new w3 (cells noughts) (cells mk) 46
  obtain ⟨w4, hwA⟩ : ∃ wx, w3.alloc (.cells (cells mk) 46) = wx := ⟨_, rfl⟩
  rw [hwA] at bbA nA eA
  have hsA : w4.heap.size = w3.heap.size + 1 := by rw [← hwA]; simp
  have nl' := (bbA.block w.heap.size (by omega)).trans nl
  have HBA : Hid (Below w.heap.size w w4) := HB.out.trans (bbA.mono HB.out.size)
  clear HB
  have HB := HBA
  clear HBA bbA hwA
  clear nl
  have nl := nl'
  clear nl'
  obtain ⟨mA, hmA⟩ : ∃ m, w3.heap.size = m := ⟨_, rfl⟩
  rw [hmA] at nzA nA eA hsA
  have hleA : w.heap.size < mA := by omega
  have hltA0 : w.heap.size < mA := by omega
  have hrl := rowV_range nl
  go_wp2_with (first
    | (refine wpList_store_sector rfl _ _ rfl mA mk rfl rfl hmk _ _ nzA rfl ?_; rw [eA])
    | refine wpList_load_mid rfl 100 _ rfl w.heap.size 0 rfl (rowV l) d hrl hd1 hd2 hsl ?_)
  clear hrl nzA eA hmA
  refine (rwritePtr_is hl w4).mono ?_
  rintro e w5 ⟨rfl, b⟩
  have nl' := (b.block w.heap.size (by omega)).trans nl
  clear nl
  have nl := nl'
  clear nl'
  have nA' := (b.block mA (by omega)).trans nA
  clear nA
  have nA := nA'
  clear nA'
  have HB0 : Hid (Below w.heap.size w w5) := HB.out.trans (b.mono HB.out.size)
  clear HB
  have HB := HB0
  clear HB0
  have hszw5 := b.size
  clear b
  rw [hmke, hdec]
  have nzB := heap_alloc_new w5 (.cells (cells noughts) 45)
  have bbB := below_box w5 (.cells (cells mk) 45)
  have nB := heap_alloc_new w5 (.cells (cells mk) 45)
  have eB := World.setRow_alloc_new w5 (cells noughts) (cells mk) 45
  obtain ⟨w6, hwB⟩ : ∃ wx, w5.alloc (.cells (cells mk) 45) = wx := ⟨_, rfl⟩
  rw [hwB] at bbB nB eB
  have hsB : w6.heap.size = w5.heap.size + 1 := by rw [← hwB]; simp
  have nl' := (bbB.block w.heap.size (by omega)).trans nl
  have nA' := (bbB.block mA (by omega)).trans nA
  have HBB : Hid (Below w.heap.size w w6) := HB.out.trans (bbB.mono HB.out.size)
  clear HB
  have HB := HBB
  clear HBB bbB hwB
  clear nl
  have nl := nl'
  clear nl'
  clear nA
  have nA := nA'
  clear nA'
  obtain ⟨mB, hmB⟩ : ∃ m, w5.heap.size = m := ⟨_, rfl⟩
  rw [hmB] at nzB nB eB hsB
  have hleB : w.heap.size < mB := by omega
  have hltB0 : w.heap.size < mB := by omega
  have hltB1 : mA < mB := by omega
  have HCA := Lib.hid (block_cells hmk nA)
  have HCB := Lib.hid (block_cells hmk nB)
  go_wp2_with (first
    | (refine wpList_store_full rfl _ _ rfl mB mk rfl rfl hmk _ _ nzB rfl ?_; rw [eB])
    | refine wpList_load_sector rfl _ rfl mA 0 mk rfl hmk HCA.out ?_
    | refine wpList_load_full rfl _ rfl mB 0 mk rfl hmk HCB.out ?_)
  clear HCA HCB nzB eB hmB nB
  refine (readPtr_is mk hmk hmkb w6).mono ?_
  rintro e w7 ⟨rfl, b⟩
  have nl' := (b.block w.heap.size (by omega)).trans nl
  clear nl
  have nl := nl'
  clear nl'
  have nA' := (b.block mA (by omega)).trans nA
  clear nA
  have nA := nA'
  clear nA'
  have HB0 : Hid (Below w.heap.size w w7) := HB.out.trans (b.mono HB.out.size)
  clear HB
  have HB := HB0
  clear HB0
  have hszw7 := b.size
  clear b
  rw [hrx, hre]
  have nzC := heap_alloc_new w7 (.cells (cellsF zeroP) 100)
  have bbC := below_box w7 (.cells (cellsF x) 100)
  have nC := heap_alloc_new w7 (.cells (cellsF x) 100)
  have eC := World.setRow_alloc_new w7 (cellsF zeroP) (cellsF x) 100
  obtain ⟨w8, hwC⟩ : ∃ wx, w7.alloc (.cells (cellsF x) 100) = wx := ⟨_, rfl⟩
  rw [hwC] at bbC nC eC
  have hsC : w8.heap.size = w7.heap.size + 1 := by rw [← hwC]; simp
  have nl' := (bbC.block w.heap.size (by omega)).trans nl
  have nA' := (bbC.block mA (by omega)).trans nA
  have HBC : Hid (Below w.heap.size w w8) := HB.out.trans (bbC.mono HB.out.size)
  clear HB
  have HB := HBC
  clear HBC bbC hwC
  clear nl
  have nl := nl'
  clear nl'
  clear nA
  have nA := nA'
  clear nA'
  obtain ⟨mC, hmC⟩ : ∃ m, w7.heap.size = m := ⟨_, rfl⟩
  rw [hmC] at nzC nC eC hsC
  have hleC : w.heap.size < mC := by omega
  have hltC0 : w.heap.size < mC := by omega
  have hltC1 : mA < mC := by omega
  have hrl := rowV_range nl
  have hrc := rowV_range nC
  go_wp2_with (first
    | (refine wpList_store_row rfl 100 _ _ rfl mC (cellsF x) rfl rfl _ _ nzC hsx2 holdx honex ?_; rw [eC])
    | refine wpList_load_mid_want rfl 100 _ rfl mC 0 rfl (rowV x) d hrc hd1 hd2 hsx ?_
    | refine wpList_load_mid_want rfl 100 _ rfl w.heap.size 0 rfl (rowV l) d hrl hd1 hd2 hsl ?_)
  clear hrl hrc nzC eC hmC nC nA nl
  refine (full_any _ _ _ _ w8 (hr.below (HB.out)) hbm).mono ?_
  rintro e w9 ⟨rfl, b⟩
  have HB0 : Hid (Below w.heap.size w w9) := HB.out.trans (b.mono HB.out.size)
  clear HB
  have HB := HB0
  clear HB0
  have hszw9 := b.size
  clear b
  rw [hany]
  have nzD := heap_alloc_new w9 (.cells (cells noughts) 45)
  have bbD := below_box w9 (.cells (cells any) 45)
  have nD := heap_alloc_new w9 (.cells (cells any) 45)
  have eD := World.setRow_alloc_new w9 (cells noughts) (cells any) 45
  obtain ⟨w10, hwD⟩ : ∃ wx, w9.alloc (.cells (cells any) 45) = wx := ⟨_, rfl⟩
  rw [hwD] at bbD nD eD
  have hsD : w10.heap.size = w9.heap.size + 1 := by rw [← hwD]; simp
  have HBD : Hid (Below w.heap.size w w10) := HB.out.trans (bbD.mono HB.out.size)
  clear HB
  have HB := HBD
  clear HBD bbD hwD
  obtain ⟨mD, hmD⟩ : ∃ m, w9.heap.size = m := ⟨_, rfl⟩
  rw [hmD] at nzD nD eD hsD
  have hleD : w.heap.size < mD := by omega
  have HCD := Lib.hid (block_cells hany8 nD)
  go_wp2_with (first
    | (refine wpList_store_full rfl _ _ rfl mD any rfl rfl hany8 _ _ nzD rfl ?_; rw [eD])
    | refine wpList_load_full rfl _ rfl mD 0 any rfl hany8 HCD.out ?_)
  clear HCD nzD eD hmD
  refine (readPtr_is any hany8 hanyb w10).mono ?_
  rintro e w11 ⟨rfl, b⟩
  have nD' := (b.block mD (by omega)).trans nD
  clear nD
  have nD := nD'
  clear nD'
  have HB0 : Hid (Below w.heap.size w w11) := HB.out.trans (b.mono HB.out.size)
  clear HB
  have HB := HB0
  clear HB0
  have hszw11 := b.size
  clear b
  rw [hry, hre2]
  have nzE := heap_alloc_new w11 (.cells (cellsF zeroP) 100)
  have bbE := below_box w11 (.cells (cellsF y) 100)
  have nE := heap_alloc_new w11 (.cells (cellsF y) 100)
  have eE := World.setRow_alloc_new w11 (cellsF zeroP) (cellsF y) 100
  obtain ⟨w12, hwE⟩ : ∃ wx, w11.alloc (.cells (cellsF y) 100) = wx := ⟨_, rfl⟩
  rw [hwE] at bbE nE eE
  have hsE : w12.heap.size = w11.heap.size + 1 := by rw [← hwE]; simp
  have nD' := (bbE.block mD (by omega)).trans nD
  have HBE : Hid (Below w.heap.size w w12) := HB.out.trans (bbE.mono HB.out.size)
  clear HB
  have HB := HBE
  clear HBE bbE hwE
  clear nD
  have nD := nD'
  clear nD'
  obtain ⟨mE, hmE⟩ : ∃ m, w11.heap.size = m := ⟨_, rfl⟩
  rw [hmE] at nzE nE eE hsE
  have hleE : w.heap.size < mE := by omega
  have hltE0 : mD < mE := by omega
  have HCD := Lib.hid (block_cells hany8 nD)
  go_wp2_with (first
    | (refine wpList_store_row rfl 100 _ _ rfl mE (cellsF y) rfl rfl _ _ nzE hsy2 holdy honey ?_; rw [eE])
    | refine wpList_load_full rfl _ rfl mD 0 any rfl hany8 HCD.out ?_)
  clear HCD nzE eE hmE
  refine (rreadPtr_is any hany8 hanyb w12).mono ?_
  rintro e w13 ⟨rfl, b⟩
  have nD' := (b.block mD (by omega)).trans nD
  clear nD
  have nD := nD'
  clear nD'
  have nE' := (b.block mE (by omega)).trans nE
  clear nE
  have nE := nE'
  clear nE'
  have HB0 : Hid (Below w.heap.size w w13) := HB.out.trans (b.mono HB.out.size)
  clear HB
  have HB := HB0
  clear HB0
  have hszw13 := b.size
  clear b
  rw [hry, hdec2]
  have nzG := heap_alloc_new w13 (.cells (cellsF zeroP) 100)
  have bbG := below_box w13 (.cells (cellsF y) 100)
  have nG := heap_alloc_new w13 (.cells (cellsF y) 100)
  have eG := World.setRow_alloc_new w13 (cellsF zeroP) (cellsF y) 100
  obtain ⟨w14, hwG⟩ : ∃ wx, w13.alloc (.cells (cellsF y) 100) = wx := ⟨_, rfl⟩
  rw [hwG] at bbG nG eG
  have hsG : w14.heap.size = w13.heap.size + 1 := by rw [← hwG]; simp
  have nD' := (bbG.block mD (by omega)).trans nD
  have nE' := (bbG.block mE (by omega)).trans nE
  have HBG : Hid (Below w.heap.size w w14) := HB.out.trans (bbG.mono HB.out.size)
  clear HB
  have HB := HBG
  clear HBG bbG hwG
  clear nD
  have nD := nD'
  clear nD'
  clear nE
  have nE := nE'
  clear nE'
  obtain ⟨mG, hmG⟩ : ∃ m, w13.heap.size = m := ⟨_, rfl⟩
  rw [hmG] at nzG nG eG hsG
  have hleG : w.heap.size < mG := by omega
  have hltG0 : mD < mG := by omega
  have hltG1 : mE < mG := by omega
  have hre := rowV_range nE
  have hrg := rowV_range nG
  go_wp2_with (first
    | (refine wpList_store_row rfl 100 _ _ rfl mG (cellsF y) rfl rfl _ _ nzG hsy2 holdy honey ?_; rw [eG])
    | refine wpList_load_mid rfl 100 _ rfl mE 0 rfl (rowV y) d hre hd1 hd2 hsy ?_
    | refine wpList_load_mid rfl 100 _ rfl mG 0 rfl (rowV y) d hrg hd1 hd2 hsy ?_)
  go_ret
  exact ⟨rfl, HB.out⟩

theorem codecPointers_walk {l : List FldD} (hl : IsPtr l) (a : Option Addr) (len cap : Nat) (bs : List Nat) (w : World) (hr : Reads w a len bs) (hbm : len ≤ maxLen) :
    Calls Try.prog 14 #[.agg (cellsF l), .slice a len cap] w fun e w' => e = .returned (.bool true) ∧ Below w.heap.size w w' := by
  by_cases h1 : inP l
  · by_cases h2 : inP (rdP (fullL bs))
    · exact codecPointers_yy hl a len cap bs w hr hbm h1 h2
    · exact codecPointers_yn hl a len cap bs w hr hbm h1 h2
  · by_cases h2 : inP (rdP (fullL bs))
    · exact codecPointers_ny hl a len cap bs w hr hbm h1 h2
    · exact codecPointers_nn hl a len cap bs w hr hbm h1 h2
set_option maxRecDepth 100000 in
theorem codecPointers_lifted (os : Os) (started : os.Started) (H : Type) (enc : TypeId × Value → H) :
    ReturnsInHanded {} Try.checked os 14 .any (Rows.codecPointersSpec.pre6 enc Try.prog Try.f14 Rows.codecPointersRow.domain false) (Rows.codecPointersSpec.post enc Try.prog Try.f14 false true false false) :=
  law_lifted (s := Rows.codecPointersSpec) started Try.func14 (by kernel_rfl) rfl (fun ds hd => by
        match ds, hd with
        | [_, _], _ => rfl) rfl
      (of_decide_eq_true (by kernel_rfl))
      (ChangeSpec.witness6 (enc := enc) (C := Try.checked) false ⟨#[], #[.agg (Array.replicate 32 (.int .i64 0)), .slice none 0 0], []⟩ 8 (by kernel_rfl) (by kernel_rfl) (by kernel_rfl) (by kernel_rfl))
      (fun W base args ds ps hval hA hsz => by
        rw [Try.params14] at hA hval hsz
        obtain ⟨v0, vs0, d0, ds0, p0, q0, hargs, rfl, rfl, h0, r0⟩ := trodAll_cons hA
        obtain ⟨v1, vs1, d1, ds1, p1, q1, rfl, rfl, rfl, h1, r1⟩ := trodAll_cons r0
        obtain ⟨rfl, rfl, rfl⟩ := trodAll_nil r1
        obtain rfl : args = #[v0, v1] := by cases args; simp_all
        simp only [DataW.weightsEach, List.all_append, Bool.and_eq_true] at hsz
        obtain ⟨z0, z1, _⟩ := hsz
        obtain ⟨l, rfl, hl⟩ := open_ptr (hval 0 100 v0 rfl rfl) h0
        obtain ⟨a, len, cap, bs, rfl, hr, hle, hc⟩ := open_bytes (hval 1 33 v1 rfl rfl) h1 z1
        exact codecPointers_walk hl a len cap bs W hr (by unfold maxLen; omega))

theorem codecPointers_holds : Rows.CodecPointersSaid :=
  OpenClaim.holds_of_wide 14 Try.f14 rfl rfl rfl rfl rfl rfl rfl ⟨rfl, rfl, rfl, rfl, rfl⟩ rfl rfl rfl rfl rfl (by kernel_rfl) Try.func14 (by kernel_rfl)
    (of_decide_eq_true (by kernel_rfl)) (by unfold Func.isWrapper; first | (rw [if_pos (by decide +kernel)]; kernel_rfl) | (rw [if_neg (by decide +kernel)]; exact ⟨rfl, rfl⟩))
    (fun os started H enc _ => codecPointers_lifted os started H enc)
#print axioms codecPointers_holds
end Go.Proofs.Ytedhfgadphjobaa
