/- The law DirentFills, walked. -/
import Derived.Test.YtpnafikmbbnecaaDir23
namespace Go.Proofs.Ytpnafikmbbnecaa
open Go.RowKit Go.Sort
set_option linter.unusedVariables false
set_option linter.unusedSimpArgs false
set_option maxRecDepth 100000

def FillAt (g : Nat) (w : World) (A : List Ent) (wr : World) : Prop := GoodA A ∧ wr.heap[g]? = some (.cells (csE (padE A)) 28 (0, 0)) ∧ Below w.heap.size w wr
set_option maxHeartbeats 6400000 in
theorem direntFills_walk (a : Option Addr) (len cap : Nat) (l : List ByteArray) (w : World) (hr : ReadsV w a len (l.map Value.string)) (hl : len ≤ maxLen) (hs : ∀ s ∈ l, s.size ≤ maxLen) :
    Calls Try.prog 5 #[.slice a len cap] w fun e w' => e = .returned (.bool true) ∧ Below w.heap.size w w' := by
  obtain ⟨dC, hdc1, hdc2⟩ := row_blk
  have HDC := Lib.hid hdc1
  have hzb := zero_blk
  have hzs := zero_sector
  have hlm : l.length = len := by have := hr.1; rwa [List.length_map] at this
  have HLM := Lib.hid hlm
  have HR := Lib.hid hr
  have HSZ := Lib.hid hs
  have HL := Lib.hid hl
  clear hr hs hlm hdc1 hl
  go_enter Try.func5, Try.ntmps5
  go_wp2_with fail
  refine (awake6_true w).mono ?_
  rintro e w1 ⟨rfl, b1⟩
  have b2 := below_box w1 (.cells (csE zeroE) 28)
  have n2 := heap_alloc_new w1 (.cells (csE zeroE) 28)
  have hb2 := below_next b1 b2
  obtain ⟨w2, hw2⟩ : ∃ x, w1.alloc (.cells (csE zeroE) 28) = x := ⟨_, rfl⟩
  rw [hw2] at n2 hb2
  have HW2 := Lib.hid hw2
  obtain ⟨g, hg⟩ : ∃ g, w1.heap.size = g := ⟨_, rfl⟩
  have hgw : w.heap.size ≤ g := by rw [← hg]; exact b1.size
  rw [hg] at n2
  have HINIT : Hid (FillAt g w [] w2) := Lib.hid ⟨fun x hx => by simp at hx, n2, hb2⟩
  clear b1 b2 n2 hb2
  go_wp2
  clear hw2 hg HW2
  go_loopw [4, 5, 6, 8, 10, 11] (fun n i _ _ _ _ wr => ∃ (A : List Ent) (k : Nat), k ≤ 12 ∧ A.length ≤ 4 ∧ n = .int .i64 (A.length : Int) ∧ i = .int .i64 (k : Int) ∧ Hid (FillAt g w A wr)) (fun _ i _ _ _ _ _ => 12 - (intOf i).toNat)
  case atStart => exact ⟨[], 0, by decide, by decide, rfl, rfl, HINIT⟩
  case round =>
    obtain ⟨A, k, hk, hA, rfl, rfl, HF⟩ := hrel
    clear HINIT
    by_cases h12 : k < 12
    · have h12I : (k : Int) < 12 := by omega
      by_cases hlen : k < len
      · have hlI : (k : Int) < (len : Int) := by omega
        obtain ⟨s, hks⟩ : ∃ s, l[k]? = some s := ⟨_, List.getElem?_eq_getElem (by rw [HLM.out]; exact hlen)⟩
        have hssz := HSZ.out s (List.mem_of_getElem? hks)
        obtain ⟨gn, off, rfl, hgn, hcn⟩ := HR.out.at (show (l.map Value.string)[k]? = some (.string s) by rw [List.getElem?_map, hks]; rfl)
        have HCN : Hid (∀ W : World, Below w.heap.size w W → W.cell? ⟨gn, off + k, none⟩ = some (.string s)) := Lib.hid (fun W hb => (hb.cell (p := ⟨gn, off + k, none⟩) hgn).trans hcn)
        have HGO := Lib.hid (fun W : World => rgood_is s W hssz)
        have HSS := Lib.hid hssz
        have hkI : (0 : Int) ≤ (k : Int) := by omega
        clear hks hcn hgn hssz
        have hE4 := padE_length hA
        have HE4 := Lib.hid hE4
        have HRO := Lib.hid (fun W : World => room_is hE4 W)
        have HCO := Lib.hid (fun W : World => count_is hE4 W)
        rw [padE_free hA HF.out.1] at HRO
        rw [padE_count hA HF.out.1] at HCO
        have HSC : Hid ((Try.prog.info? 28).map (·.size) = some ((padE A).flatMap entV).length) := Lib.hid (by rw [entV_len, hE4]; exact size_blk)
        have nl := HF.out.2.1
        have HB : Hid (Below w.heap.size w wr) := Lib.hid HF.out.2.2
        have hgr : g < wr.heap.size := (Array.getElem?_eq_some_iff.1 nl).1
        have HRL := Lib.hid (row_range nl)
        clear hE4
        have hneqc : ((A.length : Int) != (A.length : Int)) = false := by simp
        have heqc : ((A.length : Int) == (A.length : Int)) = true := by simp
        by_cases h4 : A.length < 4
        · rw [if_pos h4] at HRO
          have hA0 : ¬ (A.length : Int) < 0 := by omega
          have hAge : (0 : Int) ≤ (A.length : Int) := by omega
          have hA4 : ((A.length : Int) == 4) = false := beq_eq_false_iff_ne.2 (by omega)
          go_wp2_with (refine wpList_load_mid rfl 28 _ rfl g 0 rfl ((padE A).flatMap entV) dC HRL.out HDC.out hdc2 HSC.out ?_)
          clear HRL
          refine (HRO.out wr).mono ?_
          rintro e w3 ⟨rfl, b⟩
          have nl' := (b.block g (by omega)).trans nl
          clear nl
          have nl := nl'
          clear nl'
          have HB0 : Hid (Below w.heap.size w w3) := HB.out.trans (b.mono HB.out.size)
          clear HB
          have HB := HB0
          clear HB0
          have hszw3 := b.size
          clear b
          have HRL := Lib.hid (row_range nl)
          go_wp2_with (refine wpList_load_mid rfl 28 _ rfl g 0 rfl ((padE A).flatMap entV) dC HRL.out HDC.out hdc2 HSC.out ?_)
          clear HRL
          refine (HCO.out w3).mono ?_
          rintro e w4 ⟨rfl, b⟩
          have nl' := (b.block g (by omega)).trans nl
          clear nl
          have nl := nl'
          clear nl'
          have HB0 : Hid (Below w.heap.size w w4) := HB.out.trans (b.mono HB.out.size)
          clear HB
          have HB := HB0
          clear HB0
          have hszw4 := b.size
          clear b
          have cn := HCN.out _ HB.out
          by_cases hgood : goodE s.data.toList = 0
          · have HGO2 := HGO
            rw [hgood] at HGO2
            have HAT := Lib.hid (padE_at h4)
            have hm : mayD ((1 + (k : Int)), s) = true := by
              unfold mayD
              dsimp only
              rw [if_neg (by omega), decide_eq_true (by omega), hgood]
              rfl
            have hG2 := HF.out.1.more (x := ((1 + (k : Int)), s)) (by show (1 : Int) + (k : Int) ≠ 0; omega) hm
            have hA2 : (A ++ [((1 + (k : Int)), s)]).length ≤ 4 := by rw [List.length_append]; show A.length + 1 ≤ 4; omega
            have hlA2 : (A ++ [((1 + (k : Int)), s)]).length = A.length + 1 := List.length_append
            have hst := padE_set h4 ((1 + (k : Int)), s)
            obtain ⟨k', hk', hfk, y, hyk, hyp⟩ := fromE_found (p := nameP s) (padE_snoc h4 ((1 + (k : Int)), s)) (by unfold nameP; dsimp only; rw [beq_eq_false_iff_ne.2 (by omega)]; simp)
            have hX4 := padE_length hA2
            have hall := padE_may hG2
            have hw0 := writeD_text hX4 hall
            have hwt := textW_facts hX4 hall
            have hrd := readD_writeD hX4 hall
            have hfit : ∀ x ∈ padE (A ++ [((1 + (k : Int)), s)]), I64 x.1 ∧ x.2.size ≤ 100000 := fun x hx => by
              obtain ⟨m1, m2, m3⟩ := mayD_facts (List.all_eq_true.1 hall x hx)
              exact ⟨by unfold I64; omega, by rw [Lib.size_eq]; omega⟩
            have HG2 := Lib.hid hG2
            have HA2 := Lib.hid (And.intro hA2 hlA2)
            obtain ⟨q1, q2⟩ := csE_get HAT.out
            have c0 : w4.cell? ⟨g, A.length * 2, none⟩ = some (.int .i64 0) := (cell_of_row nl _).trans q1
            have f0 : w4.frozen? ⟨g, A.length * 2, none⟩ = false := frozen_of_row _ _ _ _ _ nl
            have n5 := row_stored (i := A.length * 2) (u := .int .i64 (1 + (k : Int))) nl
            have c1 : (w4.setCell ⟨g, A.length * 2, none⟩ (.int .i64 (1 + (k : Int)))).cell? ⟨g, A.length * 2 + 1, none⟩ = some (.string ByteArray.empty) := by
              rw [cell_of_row n5, Array.getElem?_setIfInBounds_ne (by omega)]
              exact q2
            have f1 : (w4.setCell ⟨g, A.length * 2, none⟩ (.int .i64 (1 + (k : Int)))).frozen? ⟨g, A.length * 2 + 1, none⟩ = false := frozen_of_row _ _ _ _ _ n5
            have n6 := row_stored (i := A.length * 2 + 1) (u := .string s) n5
            dsimp only at hst
            rw [hst] at n6
            have HB6 : Hid (Below w.heap.size w ((w4.setCell ⟨g, A.length * 2, none⟩ (.int .i64 (1 + (k : Int)))).setCell ⟨g, A.length * 2 + 1, none⟩ (.string s))) := Lib.hid ((HB.out.setCell hgw _).setCell hgw _)
            have hs6 : ((w4.setCell ⟨g, A.length * 2, none⟩ (.int .i64 (1 + (k : Int)))).setCell ⟨g, A.length * 2 + 1, none⟩ (.string s)).heap.size = w4.heap.size := by simp [World.setCell]
            have hI1 : IntKind.i64.wrap (1 + (k : Int)) = 1 + (k : Int) := IntWalk.i64_in _ (by omega)
            have hAI : (0 : Int) ≤ (A.length : Int) ∧ (A.length : Int) < 4 := by omega
            obtain ⟨X, hXe⟩ : ∃ x, padE (A ++ [((1 + (k : Int)), s)]) = x := ⟨_, rfl⟩
            rw [hXe] at hyk hfk hX4 hall hw0 hwt hrd hfit n6
            have HXE := Lib.hid hXe
            clear hXe
            have HWR := Lib.hid (fun W : World => writeD_is hX4 hfit W)
            rw [hw0] at HWR hrd
            obtain ⟨mk, hmke⟩ : ∃ x, textW X = x := ⟨_, rfl⟩
            rw [hmke] at HWR hrd hwt
            have HRD := Lib.hid (fun W : World => readD_is mk hwt.1 hwt.2.1 W)
            rw [hrd] at HRD
            have HFI := Lib.hid (fun W : World => find_is hX4 s W)
            rw [hfk] at HFI
            have HMK := Lib.hid hwt.1
            have HX4 := Lib.hid hX4
            have HYK := Lib.hid hyk
            have hyn : (y.2.toList == s.toList) = true := by
              unfold nameP at hyp
              rw [Bool.and_eq_true] at hyp
              exact hyp.2
            have HSXL : Hid ((Try.prog.info? 28).map (·.size) = some (X.flatMap entV).length) := Lib.hid (by rw [entV_len, hX4]; exact size_blk)
            have HSX : Hid ((Try.prog.info? 28).map (·.size) = some (csE X).size) := Lib.hid (by rw [csE_size, hX4]; exact size_blk)
            have HOX : Hid ((csE zeroE).size = (csE X).size) := Lib.hid (by rw [csE_size, csE_size, hX4]; rfl)
            have HNX := Lib.hid (csE_one X)
            have HNEQ := Lib.hid (fun W : World => run_neq_blk hX4 W)
            clear hm hG2 hA2 hlA2 hst hfk hyk hyp hX4 hall hw0 hwt hrd hfit q1 q2 hmke n5 HGO HRO HCO hgood
            obtain ⟨w6, hw6⟩ : ∃ x, (w4.setCell ⟨g, A.length * 2, none⟩ (.int .i64 (1 + (k : Int)))).setCell ⟨g, A.length * 2 + 1, none⟩ (.string s) = x := ⟨_, rfl⟩
            rw [hw6] at n6 HB6 hs6
            have HR6 := Lib.hid (row_range n6)
            have hg6 : g < w6.heap.size := (Array.getElem?_eq_some_iff.1 n6).1
            clear nl HB HF
            have nl := n6
            have HB := HB6
            clear n6 HB6
            go_wp2_with fail
            refine (HGO2.out _).mono ?_
            rintro e w5 ⟨rfl, rfl⟩
            go_wp2_with (refine wpList_load_mid rfl 28 _ rfl g 0 rfl (X.flatMap entV) dC HR6.out HDC.out hdc2 HSXL.out ?_)
            clear HR6 c0 f0 c1 f1 hw6 hs6 cn
            refine (HWR.out w6).mono ?_
            rintro e w7 ⟨rfl, b⟩
            have nl' := (b.block g (by omega)).trans nl
            clear nl
            have nl := nl'
            clear nl'
            have HB0 : Hid (Below w.heap.size w w7) := HB.out.trans (b.mono HB.out.size)
            clear HB
            have HB := HB0
            clear HB0
            have hszw7 := b.size
            clear b
            have nzA := heap_alloc_new w7 (.cells (cells noughts) 43)
            have bbA := below_box w7 (.cells (cells mk) 43)
            have nA := heap_alloc_new w7 (.cells (cells mk) 43)
            have eA := World.setRow_alloc_new w7 (cells noughts) (cells mk) 43
            obtain ⟨w8, hwA⟩ : ∃ wx, w7.alloc (.cells (cells mk) 43) = wx := ⟨_, rfl⟩
            rw [hwA] at bbA nA eA
            have hsA : w8.heap.size = w7.heap.size + 1 := by rw [← hwA]; simp
            have nl' := (bbA.block g (by omega)).trans nl
            clear nl
            have nl := nl'
            clear nl'
            have HB0 : Hid (Below w.heap.size w w8) := HB.out.trans (bbA.mono HB.out.size)
            clear HB
            have HB := HB0
            clear HB0
            have hszw8 := bbA.size
            clear bbA
            clear hwA
            obtain ⟨mA, hmA⟩ : ∃ m, w7.heap.size = m := ⟨_, rfl⟩
            rw [hmA] at nzA nA eA hsA
            have hltAnl : g < mA := by omega
            have HCA := Lib.hid (block_cells HMK.out nA)
            go_wp2_with (first
              | (refine wpList_store_sector rfl _ _ rfl mA mk rfl rfl HMK.out _ _ nzA rfl ?_; rw [eA])
              | refine wpList_load_sector rfl _ rfl mA 0 mk rfl HMK.out HCA.out ?_)
            clear nzA eA HCA hmA
            refine (HRD.out w8).mono ?_
            rintro e w9 ⟨rfl, b⟩
            have nl' := (b.block g (by omega)).trans nl
            clear nl
            have nl := nl'
            clear nl'
            have nA' := (b.block mA (by omega)).trans nA
            clear nA
            have nA := nA'
            clear nA'
            have HB0 : Hid (Below w.heap.size w w9) := HB.out.trans (b.mono HB.out.size)
            clear HB
            have HB := HB0
            clear HB0
            have hszw9 := b.size
            clear b
            have nzB := heap_alloc_new w9 (.cells (csE zeroE) 28)
            have bbB := below_box w9 (.cells (csE X) 28)
            have nB := heap_alloc_new w9 (.cells (csE X) 28)
            have eB := World.setRow_alloc_new w9 (csE zeroE) (csE X) 28
            obtain ⟨w10, hwB⟩ : ∃ wx, w9.alloc (.cells (csE X) 28) = wx := ⟨_, rfl⟩
            rw [hwB] at bbB nB eB
            have hsB : w10.heap.size = w9.heap.size + 1 := by rw [← hwB]; simp
            have nl' := (bbB.block g (by omega)).trans nl
            clear nl
            have nl := nl'
            clear nl'
            have nA' := (bbB.block mA (by omega)).trans nA
            clear nA
            have nA := nA'
            clear nA'
            have HB0 : Hid (Below w.heap.size w w10) := HB.out.trans (bbB.mono HB.out.size)
            clear HB
            have HB := HB0
            clear HB0
            have hszw10 := bbB.size
            clear bbB
            clear hwB
            obtain ⟨mB, hmB⟩ : ∃ m, w9.heap.size = m := ⟨_, rfl⟩
            rw [hmB] at nzB nB eB hsB
            have hltBnl : g < mB := by omega
            have hltBnA : mA < mB := by omega
            have HNL := Lib.hid nl
            have HNB := Lib.hid nB
            have hcn9 := HCN.out _ HB.out
            have HN9 := Lib.hid hcn9
            go_wp2_with (refine wpList_store_row rfl 28 _ _ rfl mB (csE X) rfl rfl _ _ nzB HSX.out HOX.out HNX.out ?_; rw [eB])
            clear nzB eB hmB hcn9
            have hcr := cell_regrown HN9.out
            refine wp_region_quiet_below (by kernel_rfl) (by kernel_rfl) ?_
            repeat (first
              | (go_big_quiet_want; (refine quietLoadRow 28 _ rfl g 0 (X.flatMap entV) dC rfl HDC.out hdc2 HSXL.out (blk_regrown HNL.out) ?_); go_simp; go_big_quiet_on)
              | go_big_quiet_step ((go_at_call 15; exact Calls.regrown_of (HFI.out _))))
            refine wpQuiet_nil (regrown_name fun w20 b => ?_)
            clear HNL HNB hcr HN9
            have nl' := (b.block g (by omega)).trans nl
            clear nl
            have nl := nl'
            clear nl'
            have nA' := (b.block mA (by omega)).trans nA
            clear nA
            have nA := nA'
            clear nA'
            have nB' := (b.block mB (by omega)).trans nB
            clear nB
            have nB := nB'
            clear nB'
            have HB0 : Hid (Below w.heap.size w w20) := HB.out.trans (b.mono HB.out.size)
            clear HB
            have HB := HB0
            clear HB0
            have hszw20 := b.size
            clear b
            obtain ⟨y1, y2⟩ := csE_get HYK.out
            obtain ⟨yz, ys⟩ := y
            have hk4 : (0 : Int) ≤ (k' : Int) ∧ (k' : Int) < 4 := by omega
            have hkA : ¬ (A.length : Int) < (k' : Int) := by omega
            have hk0 : ¬ (k' : Int) < 0 := by omega
            have hd0 : decide ((k' : Int) < 0) = false := decide_eq_false hk0
            have hdN : decide (A.length < k') = false := decide_eq_false (by omega)
            have hdA : decide ((A.length : Int) < (k' : Int)) = false := decide_eq_false hkA
            have hyn2 : (ys.toList != s.toList) = false := by unfold bne; rw [hyn]; rfl
            have cL : w20.cell? ⟨g, k' * 2 + 1, none⟩ = some (.string ys) := (cell_of_row nl _).trans y2
            have cN := HCN.out _ HB.out
            have hcL := cell_regrown cL
            have hcN := cell_regrown cN
            have HNL := Lib.hid nl
            have HNB := Lib.hid nB
            have hneq : ∀ W : World, (binOp .neq 28 (.agg (X.flatMap entV).toArray) (.agg (X.flatMap entV).toArray)).run Try.prog W = .ok (.bool false) W := HNEQ.out
            clear y1 y2
            go_wp2_with fail
            refine wp_region_quiet_below (by kernel_rfl) (by kernel_rfl) ?_
            repeat (first
              | (go_big_quiet_want; (refine quietLoadRow 28 _ rfl g 0 (X.flatMap entV) dC rfl HDC.out hdc2 HSXL.out (blk_regrown HNL.out) ?_); go_simp; go_big_quiet_on)
              | (go_big_quiet_want; (refine quietLoadRow 28 _ rfl mB 0 (X.flatMap entV) dC rfl HDC.out hdc2 HSXL.out (blk_regrown HNB.out) ?_); go_simp; go_big_quiet_on)
              | go_big_quiet_step (fail))
            refine wpQuiet_nil (regrown_name fun w21 b => ?_)
            clear HNL HNB hcL hcN cL cN
            have nl' := (b.block g (by omega)).trans nl
            clear nl
            have nl := nl'
            clear nl'
            have nA' := (b.block mA (by omega)).trans nA
            clear nA
            have nA := nA'
            clear nA'
            have nB' := (b.block mB (by omega)).trans nB
            clear nB
            have nB := nB'
            clear nB'
            have HB0 : Hid (Below w.heap.size w w21) := HB.out.trans (b.mono HB.out.size)
            clear HB
            have HB := HB0
            clear HB0
            have hszw21 := b.size
            clear b
            have HGF : Hid (FillAt g w (A ++ [((1 + (k : Int)), s)]) w21) := Lib.hid ⟨HG2.out, by rw [HXE.out]; exact nl, HB.out⟩
            go_wp2
            go_roundw
            case rel => exact ⟨A ++ [((1 + (k : Int)), s)], k + 1, by omega, HA2.out.1, by rw [HA2.out.2]; go_num, by go_num, HGF⟩
            case measure => simp [intOf]; omega
          · obtain ⟨ge, hge⟩ : ∃ x, goodE s.data.toList = x := ⟨_, rfl⟩
            rw [hge] at HGO hgood
            have hgn0 : (ge != 0) = true := by simpa using hgood
            have hgn1 : (ge == 0) = false := beq_eq_false_iff_ne.2 hgood
            have HG5 : Hid (FillAt g w A w4) := Lib.hid ⟨HF.out.1, nl, HB.out⟩
            clear hge hgood
            go_wp2_with fail
            refine (HGO.out _).mono ?_
            rintro e w5 ⟨rfl, rfl⟩
            go_wp2
            go_roundw
            case rel => exact ⟨A, k + 1, by omega, hA, rfl, by go_num, HG5⟩
            case measure => simp [intOf]; omega
        · rw [if_neg h4] at HRO
          have hA4 : ((A.length : Int) == 4) = true := by
            have : A.length = 4 := by omega
            rw [this]; rfl
          go_wp2_with (refine wpList_load_mid rfl 28 _ rfl g 0 rfl ((padE A).flatMap entV) dC HRL.out HDC.out hdc2 HSC.out ?_)
          clear HRL
          refine (HRO.out wr).mono ?_
          rintro e w3 ⟨rfl, b⟩
          have nl' := (b.block g (by omega)).trans nl
          clear nl
          have nl := nl'
          clear nl'
          have HB0 : Hid (Below w.heap.size w w3) := HB.out.trans (b.mono HB.out.size)
          clear HB
          have HB := HB0
          clear HB0
          have hszw3 := b.size
          clear b
          have HRL := Lib.hid (row_range nl)
          go_wp2_with (refine wpList_load_mid rfl 28 _ rfl g 0 rfl ((padE A).flatMap entV) dC HRL.out HDC.out hdc2 HSC.out ?_)
          clear HRL
          refine (HCO.out w3).mono ?_
          rintro e w4 ⟨rfl, b⟩
          have nl' := (b.block g (by omega)).trans nl
          clear nl
          have nl := nl'
          clear nl'
          have HB0 : Hid (Below w.heap.size w w4) := HB.out.trans (b.mono HB.out.size)
          clear HB
          have HB := HB0
          clear HB0
          have hszw4 := b.size
          clear b
          have cn := HCN.out _ HB.out
          obtain ⟨ge, hge⟩ : ∃ x, goodE s.data.toList = x := ⟨_, rfl⟩
          rw [hge] at HGO
          have HG5 : Hid (FillAt g w A w4) := Lib.hid ⟨HF.out.1, nl, HB.out⟩
          clear hge
          by_cases hg0 : ge = 0
          · subst hg0
            go_wp2_with fail
            refine (HGO.out _).mono ?_
            rintro e w5 ⟨rfl, rfl⟩
            go_wp2
            go_roundw
            case rel => exact ⟨A, k + 1, by omega, hA, rfl, by go_num, HG5⟩
            case measure => simp [intOf]; omega
          · have hgn0 : (ge != 0) = true := by simpa using hg0
            have hgn1 : (ge == 0) = false := beq_eq_false_iff_ne.2 hg0
            go_wp2_with fail
            refine (HGO.out _).mono ?_
            rintro e w5 ⟨rfl, rfl⟩
            go_wp2
            go_roundw
            case rel => exact ⟨A, k + 1, by omega, hA, rfl, by go_num, HG5⟩
            case measure => simp [intOf]; omega
      · have hlI : ¬ (k : Int) < (len : Int) := by omega
        go_wp2
        go_ret
        exact ⟨rfl, HF.out.2.2⟩
    · have h12I : ¬ (k : Int) < 12 := by omega
      by_cases hlen : k < len
      · have hlI : (k : Int) < (len : Int) := by omega
        go_wp2
        go_ret
        exact ⟨rfl, HF.out.2.2⟩
      · have hlI : ¬ (k : Int) < (len : Int) := by omega
        go_wp2
        go_ret
        exact ⟨rfl, HF.out.2.2⟩
end Go.Proofs.Ytpnafikmbbnecaa
