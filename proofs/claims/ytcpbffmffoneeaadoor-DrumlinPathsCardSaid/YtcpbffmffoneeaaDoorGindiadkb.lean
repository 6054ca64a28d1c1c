/- The law DrumlinPaths, walked: the way A1. -/
import Derived.Test.YtcpbffmffoneeaaDoorGbchpbajp
import Derived.Lib.QuietBelow
import Derived.Lib.MinMax
namespace Go.Proofs.YtcpbffmffoneeaaDoor
open Go.RowKit Go.Sort
set_option linter.unusedVariables false
set_option linter.unusedSimpArgs false
set_option maxRecDepth 100000

set_option maxHeartbeats 6400000 in
theorem paths_A1 (s : ByteArray) (hs : ¬ 300 < s.size) (hs2 : s.size ≤ maxLen) (ab di : Bool) (Q : List Bs) (E : Int) (hp : ∀ W : World, Calls Tryd.prog 5 #[.string (s)] W (PathPost ab di Q E W)) (hq : Q.length ≤ 32) (hE : E = 0) (hg : E = 0 → ∀ p ∈ Q, goodE p = 0 ∧ p.length ≤ 26)
    (a n : Int) (ha : I64 a) (hn : I64 n) (w : World) (hw : BoundsAt w) :
    Calls Tryd.prog 3 #[.string s, .int .i64 a, .int .i64 n] w fun e w' => e = .returned (.bool true) ∧ Below w.heap.size w w' := by
  have HP := Lib.hid hp
  have HQ := Lib.hid hq
  have HG := Lib.hid hg
  have HA := Lib.hid ha
  have HN := Lib.hid hn
  have HW := Lib.hid hw
  have hszI : ¬ (300 : Int) < (s.size : Int) := by omega
  have hm0 : 0 ≤ max 0 (min n 20000) ∧ max 0 (min n 20000) ≤ 20000 := by omega
  obtain ⟨m, hm⟩ : ∃ m, max 0 (min n 20000) = m := ⟨_, rfl⟩
  rw [hm] at hm0
  have HM := Lib.hid hm
  clear hp hq hg ha hn hw hm
  go_enter Tryd.func3, Tryd.ntmps3
  go_wp2_with fail
  have b0 := below_box w (.cells #[.int .i64 0] 3)
  have n0 := heap_alloc_new w (.cells #[.int .i64 0] 3)
  obtain ⟨wa, hwa⟩ : ∃ x, w.alloc (.cells #[.int .i64 0] 3) = x := ⟨_, rfl⟩
  rw [hwa] at b0 n0
  have hla : w.heap.size < wa.heap.size := (Array.getElem?_eq_some_iff.1 n0).1
  refine (cost_is [0] (some ⟨w.heap.size, 0, none⟩) 1 1 _ (HW.out.below (by rw [hwa]; exact b0)) ⟨rfl, .inr ⟨w.heap.size, 0, rfl, by rw [hwa]; exact hla, fun i hi => by
    obtain rfl : i = 0 := by omega
    rw [hwa]
    exact (cell_of_row n0 0).trans rfl⟩⟩ (fun x hx => by
    obtain rfl : x = 0 := by simpa using hx
    unfold I64; omega) (by decide)).mono ?_
  rintro e w1 ⟨rfl, b⟩
  rw [hwa] at b
  have hcost : costL [0] = 2 := by decide
  rw [hcost]
  have HB : Hid (Below w.heap.size w w1) := Lib.hid (below_next b0 b)
  clear b0 n0 hwa hla b hcost
  go_wp2_with fail
  refine (HP.out w1).mono ?_
  rintro e w2 ⟨pa, pc, rfl, pr, hc1, hc2, b⟩
  have HB2 : Hid (Below w.heap.size w w2) := Lib.hid (HB.out.trans (b.mono HB.out.size))
  clear b HB
  have HB := HB2
  clear HB2
  have HPR := Lib.hid pr
  clear pr
  have bb := below_box w2 (.cells #[.bool ab, .bool di, .slice pa Q.length pc] 25)
  have np := heap_alloc_new w2 (.cells #[.bool ab, .bool di, .slice pa Q.length pc] 25)
  obtain ⟨w3, hw3⟩ : ∃ x, w2.alloc (.cells #[.bool ab, .bool di, .slice pa Q.length pc] 25) = x := ⟨_, rfl⟩
  rw [hw3] at bb np
  have HB3 : Hid (Below w.heap.size w w3) := Lib.hid (HB.out.trans (bb.mono HB.out.size))
  have HPR3 := Lib.hid (HPR.out.below bb)
  have hs3 : w3.heap.size = w2.heap.size + 1 := by rw [← hw3]; simp
  clear HB HPR bb
  have HB := HB3
  have HPR := HPR3
  clear HB3 HPR3
  obtain ⟨gp, hgp⟩ : ∃ g, w2.heap.size = g := ⟨_, rfl⟩
  rw [hgp] at np hs3
  have cp : w3.cell? ⟨gp, 2, none⟩ = some (.slice pa Q.length pc) := (cell_of_row np 2).trans rfl
  subst hE
  have HG2 := Lib.hid (HG.out rfl)
  have hzb := zero_blk
  have hzs := zero_sector
  obtain ⟨dC, hdc1, hdc2⟩ := row_blk
  have HDC := Lib.hid hdc1
  clear hdc1
  have hgw3 : w.heap.size ≤ w3.heap.size := HB.out.size
  have be := below_box w3 (.cells (csE zeroE) 31)
  have ne := heap_alloc_new w3 (.cells (csE zeroE) 31)
  have np4 := (be.block gp (by omega)).trans np
  obtain ⟨w4, hw4⟩ : ∃ x, w3.alloc (.cells (csE zeroE) 31) = x := ⟨_, rfl⟩
  rw [hw4] at be ne np4
  have HB4 : Hid (Below w.heap.size w w4) := Lib.hid (HB.out.trans (be.mono HB.out.size))
  have HCELL : Hid (∀ k p, Q[k]? = some p → ∃ g off, pa = some ⟨g, off, none⟩ ∧ g < w3.heap.size ∧ w4.cell? ⟨g, off + k, none⟩ = some (strV p)) := Lib.hid (fun k p hk => by
    obtain ⟨g, off, h1, h2, h3⟩ := HPR.out.at (strsV_get hk)
    exact ⟨g, off, h1, h2, (be.cell (p := ⟨g, off + k, none⟩) h2).trans h3⟩)
  clear HB HPR
  have HB := HB4
  clear HB4 be np
  have cp4 : w4.cell? ⟨gp, 2, none⟩ = some (.slice pa Q.length pc) := (cell_of_row np4 2).trans rfl
  rw [hs3] at ne HCELL hgw3
  have hgw : w.heap.size ≤ gp + 1 := hgw3
  have hN32 : Q.length ≤ 32 := HQ.out
  clear cp
  have HNE4 := Lib.hid ne
  have hge4 : (gp + 1) < w4.heap.size := (Array.getElem?_eq_some_iff.1 ne).1
  go_wp2_with fail
  go_loopw [10, 11, 41] (fun _ _ i wr => ∃ (X : List Ent) (k : Nat), k ≤ Q.length ∧ i = .int .i64 (k : Int) ∧ Hid (X.length = 4 ∧ X.all mayD = true) ∧ Hid (wr.heap[(gp + 1)]? = some (.cells (csE X) 31 (0, 0))) ∧ Hid (Below (gp + 1) w4 wr)) (fun _ _ i _ => Q.length - (intOf i).toNat)
  case atStart => exact ⟨zeroE, 0, Nat.zero_le _, rfl, Lib.hid ⟨rfl, zeroE_may⟩, HNE4, Lib.hid (Below.refl _ _)⟩
  case round =>
    obtain ⟨X, k, hk, rfl, HX, HN5, HBL⟩ := hrel
    by_cases hlt : k < Q.length
    · have hltI : (k : Int) < (Q.length : Int) := by omega
      obtain ⟨p, hp⟩ : ∃ p, Q[k]? = some p := ⟨_, List.getElem?_eq_getElem hlt⟩
      obtain ⟨g, off, rfl, hg, hc⟩ := HCELL.out k p hp
      have hgood := HG2.out p (List.mem_of_getElem? hp)
      obtain ⟨x, hx⟩ : ∃ x : ByteArray, x = ⟨p.toArray⟩ := ⟨_, rfl⟩
      have hxl : x.data.toList = p := by rw [hx]
      have c1 : wr.cell? ⟨g, off + k, none⟩ = some (.string x) := (HBL.out.cell (p := ⟨g, off + k, none⟩) hg).trans (by rw [hc, hx]; rfl)
      have HGO := Lib.hid (fun W : World => good_is x W (by unfold Fit; rw [Lib.size_eq, hxl]; omega))
      rw [hxl, hgood.1] at HGO
      have hm := part_may hgood.1 (show k < 100 by omega)
      rw [← hx] at hm
      have hj4 : k % 4 < 4 := Nat.mod_lt _ (by decide)
      have hkI : (0 : Int) ≤ (k : Int) := by omega
      clear hgood hx hxl hp hc
      go_wp2_with fail
      refine (HGO.out wr).mono ?_
      rintro e w5 ⟨rfl, b5⟩
      have hger : (gp + 1) < wr.heap.size := (Array.getElem?_eq_some_iff.1 HN5.out).1
      have n5 := (b5.block (gp + 1) hger).trans HN5.out
      have HBL5 : Hid (Below (gp + 1) w4 w5) := Lib.hid (HBL.out.trans (b5.mono (by omega)))
      clear b5 c1
      obtain ⟨xo, hxo⟩ : ∃ y, X[k % 4]? = some y := ⟨_, List.getElem?_eq_getElem (by rw [HX.out.1]; exact hj4)⟩
      obtain ⟨q1, q2⟩ := csE_get hxo
      have d0 : w5.cell? ⟨gp + 1, k % 4 * 2, none⟩ = some (.int .i64 xo.1) := (cell_of_row n5 _).trans q1
      have f0 : w5.frozen? ⟨gp + 1, k % 4 * 2, none⟩ = false := frozen_of_row _ _ _ _ _ n5
      have n6 := row_stored (i := k % 4 * 2) (u := .int .i64 (1 + (k : Int))) n5
      have d1 : (w5.setCell ⟨gp + 1, k % 4 * 2, none⟩ (.int .i64 (1 + (k : Int)))).cell? ⟨gp + 1, k % 4 * 2 + 1, none⟩ = some (.string xo.2) := by
        rw [cell_of_row n6, Array.getElem?_setIfInBounds_ne (by omega)]
        exact q2
      have f1 : (w5.setCell ⟨gp + 1, k % 4 * 2, none⟩ (.int .i64 (1 + (k : Int)))).frozen? ⟨gp + 1, k % 4 * 2 + 1, none⟩ = false := frozen_of_row _ _ _ _ _ n6
      have n7 := row_stored (i := k % 4 * 2 + 1) (u := .string x) n6
      have hput := csE_put (X := X) (j := k % 4) (by rw [HX.out.1]; exact hj4) ((1 + (k : Int)), x)
      dsimp only at hput
      rw [hput] at n7
      have HN7 := Lib.hid n7
      have HX7 : Hid ((X.set (k % 4) ((1 + (k : Int)), x)).length = 4 ∧ (X.set (k % 4) ((1 + (k : Int)), x)).all mayD = true) := Lib.hid ⟨by rw [List.length_set]; exact HX.out.1, may_set HX.out.2 hm _⟩
      have HBL7 : Hid (Below (gp + 1) w4 ((w5.setCell ⟨gp + 1, k % 4 * 2, none⟩ (.int .i64 (1 + (k : Int)))).setCell ⟨gp + 1, k % 4 * 2 + 1, none⟩ (.string x))) := Lib.hid ((HBL5.out.setCell (Nat.le_refl _) _).setCell (Nat.le_refl _) _)
      have hI1 : IntKind.i64.wrap (1 + (k : Int)) = 1 + (k : Int) := IntWalk.i64_in _ (by omega)
      have hrem : (k : Int).tmod 4 = ((k % 4 : Nat) : Int) := by rw [Int.ofNat_tmod]; rfl
      obtain ⟨j, hj⟩ : ∃ j, k % 4 = j := ⟨_, rfl⟩
      rw [hj] at d0 f0 d1 f1 HN7 HX7 HBL7 hrem hj4
      have hjI : (0 : Int) ≤ (j : Int) ∧ (j : Int) < 4 := by omega
      have HJ := Lib.hid hj
      clear n5 n6 n7 hput q1 q2 hxo hm hj
      go_wp2
      go_roundw
      case rel => exact ⟨_, k + 1, by omega, by go_num, HX7, HN7, HBL7⟩
      case measure => simp [intOf]; omega
    · have hltI : ¬ (k : Int) < (Q.length : Int) := by omega
      have nl := HN5.out
      have hger : gp + 1 < wr.heap.size := (Array.getElem?_eq_some_iff.1 nl).1
      have HBr : Hid (Below w.heap.size w wr) := Lib.hid (HB.out.trans (HBL.out.mono hgw))
      clear HB HN5 HBL hlt
      have HB := HBr
      clear HBr
      have hX4 := HX.out.1
      have hall := HX.out.2
      have hw0 := writeD_text hX4 hall
      have hwt := textW_facts hX4 hall
      have hrd := readD_writeD hX4 hall
      have hfit : ∀ x ∈ X, I64 x.1 ∧ x.2.size ≤ 100000 := fun x hx => by
        obtain ⟨m1, m2, m3⟩ := mayD_facts (List.all_eq_true.1 hall x hx)
        exact ⟨by unfold I64; omega, by rw [Lib.size_eq]; omega⟩
      have HWR := Lib.hid (fun W : World => writeD_is hX4 hfit W)
      rw [hw0] at HWR hrd
      obtain ⟨mk, hmke⟩ : ∃ x, textW X = x := ⟨_, rfl⟩
      rw [hmke] at HWR hrd hwt
      have HRD := Lib.hid (fun W : World => readD_is mk hwt.1 hwt.2.1 W)
      rw [hrd] at HRD
      have HMK := Lib.hid hwt.1
      have HSXL : Hid ((Tryd.prog.info? 31).map (·.size) = some (X.flatMap entV).length) := Lib.hid (by rw [entV_len, hX4]; exact size_blk)
      have HSX : Hid ((Tryd.prog.info? 31).map (·.size) = some (csE X).size) := Lib.hid (by rw [csE_size, hX4]; exact size_blk)
      have HOX : Hid ((csE zeroE).size = (csE X).size) := Lib.hid (by rw [csE_size, csE_size, hX4]; rfl)
      have HNX := Lib.hid (csE_one X)
      have hneq : ∀ W : World, (binOp .neq 31 (.agg (X.flatMap entV).toArray) (.agg (X.flatMap entV).toArray)).run Tryd.prog W = .ok (.bool false) W := fun W => run_neq_blk2 hX4 W
      have HR6 := Lib.hid (row_range nl)
      clear hX4 hall hw0 hwt hrd hfit hmke
      go_wp2_with (refine wpList_load_mid rfl 31 _ rfl (gp + 1) 0 rfl (X.flatMap entV) dC HR6.out HDC.out hdc2 HSXL.out ?_)
      clear HR6
      refine (HWR.out wr).mono ?_
      rintro e w6 ⟨rfl, b⟩
      have nl' := (b.block (gp + 1) (by omega)).trans nl
      clear nl
      have nl := nl'
      clear nl'
      have HB0 : Hid (Below w.heap.size w w6) := HB.out.trans (b.mono HB.out.size)
      clear HB
      have HB := HB0
      clear HB0
      have hszw6 := b.size
      clear b
      have nzA := heap_alloc_new w6 (.cells (cells noughts) 34)
      have bbA := below_box w6 (.cells (cells mk) 34)
      have nA := heap_alloc_new w6 (.cells (cells mk) 34)
      have eA := World.setRow_alloc_new w6 (cells noughts) (cells mk) 34
      obtain ⟨w7, hwA⟩ : ∃ wx, w6.alloc (.cells (cells mk) 34) = wx := ⟨_, rfl⟩
      rw [hwA] at bbA nA eA
      have hsA : w7.heap.size = w6.heap.size + 1 := by rw [← hwA]; simp
      have nl' := (bbA.block (gp + 1) (by omega)).trans nl
      clear nl
      have nl := nl'
      clear nl'
      have HB0 : Hid (Below w.heap.size w w7) := HB.out.trans (bbA.mono HB.out.size)
      clear HB
      have HB := HB0
      clear HB0
      have hszw7 := bbA.size
      clear bbA
      clear hwA
      obtain ⟨mA, hmA⟩ : ∃ m, w6.heap.size = m := ⟨_, rfl⟩
      rw [hmA] at nzA nA eA hsA
      have hltAnl : (gp + 1) < mA := by omega
      have HCA := Lib.hid (block_cells HMK.out nA)
      go_wp2_with (first
        | (refine wpList_store_sector rfl _ _ rfl mA mk rfl rfl HMK.out _ _ nzA rfl ?_; rw [eA])
        | refine wpList_load_sector rfl _ rfl mA 0 mk rfl HMK.out HCA.out ?_)
      clear nzA eA HCA hmA
      refine (HRD.out w7).mono ?_
      rintro e w8 ⟨rfl, b⟩
      have nl' := (b.block (gp + 1) (by omega)).trans nl
      clear nl
      have nl := nl'
      clear nl'
      have nA' := (b.block mA (by omega)).trans nA
      clear nA
      have nA := nA'
      clear nA'
      have HB0 : Hid (Below w.heap.size w w8) := HB.out.trans (b.mono HB.out.size)
      clear HB
      have HB := HB0
      clear HB0
      have hszw8 := b.size
      clear b
      have nzB := heap_alloc_new w8 (.cells (csE zeroE) 31)
      have bbB := below_box w8 (.cells (csE X) 31)
      have nB := heap_alloc_new w8 (.cells (csE X) 31)
      have eB := World.setRow_alloc_new w8 (csE zeroE) (csE X) 31
      obtain ⟨w9, hwB⟩ : ∃ wx, w8.alloc (.cells (csE X) 31) = wx := ⟨_, rfl⟩
      rw [hwB] at bbB nB eB
      have hsB : w9.heap.size = w8.heap.size + 1 := by rw [← hwB]; simp
      have nl' := (bbB.block (gp + 1) (by omega)).trans nl
      clear nl
      have nl := nl'
      clear nl'
      have nA' := (bbB.block mA (by omega)).trans nA
      clear nA
      have nA := nA'
      clear nA'
      have HB0 : Hid (Below w.heap.size w w9) := HB.out.trans (bbB.mono HB.out.size)
      clear HB
      have HB := HB0
      clear HB0
      have hszw9 := bbB.size
      clear bbB
      clear hwB
      obtain ⟨mB, hmB⟩ : ∃ m, w8.heap.size = m := ⟨_, rfl⟩
      rw [hmB] at nzB nB eB hsB
      have hltBnl : (gp + 1) < mB := by omega
      have hltBnA : mA < mB := by omega
      have HNL := Lib.hid (row_range nl)
      have HNB := Lib.hid (row_range nB)
      have hmm := HM.out
      go_wp2_with (first
        | (refine wpList_store_row rfl 31 _ _ rfl mB (csE X) rfl rfl _ _ nzB HSX.out HOX.out HNX.out ?_; rw [eB])
        | refine loadRowWant rfl 31 _ rfl mB 0 rfl (X.flatMap entV) dC HNB.out HDC.out hdc2 HSXL.out ?_
        | refine loadRowWant rfl 31 _ rfl (gp + 1) 0 rfl (X.flatMap entV) dC HNL.out HDC.out hdc2 HSXL.out ?_)
      clear nzB eB hmB HNL HNB hneq nl nA nB
      refine (pcut_is a m w9 HA.out (by unfold I64; omega)).mono ?_
      rintro e wc ⟨vc, rfl, oc, b⟩
      have HBc : Hid (Below w.heap.size w wc) := Lib.hid (HB.out.trans (b.mono HB.out.size))
      clear HB b hmm
      by_cases hce : cutE a m = 0
      · obtain ⟨ha0, hae⟩ := cutE_zero hm0.1 hce
        rw [cutRows_ok hce] at oc
        obtain ⟨pv, pcp, rfl, hpc⟩ := pieces_at oc
        have HPC := Lib.hid hpc
        have HPF := Lib.hid (fun (k : Nat) (h : k < cutN a (a + m)) => piece_facts ha0 hae h)
        have HN0 := Lib.hid (cut_room ha0 hae (by omega : a ≤ a + m))
        have hN1064 := cutN_le ha0 hae
        have hz0 := posI_zero (show a ≤ a + m by omega)
        have HZN : Hid (posI a (a + m) (cutN a (a + m)) = a + m) := Lib.hid (posI_out (Nat.lt_irrefl _))
        have HBK : Hid (0 < m → 0 < cutN a (a + m) ∧ blocksI (a + m) = a / 128 + ((cutN a (a + m) : Int) - 1) + 1) := Lib.hid (fun h => blocks_last ha0 (by omega))
        have HI0 : Hid (0 ≤ a / 128) := Lib.hid (by omega)
        obtain ⟨N, hN⟩ : ∃ N, cutN a (a + m) = N := ⟨_, rfl⟩
        rw [hN] at HPC HPF HN0 hN1064 HZN HBK ⊢
        have HS0 : Hid (a - a = 0) := Lib.hid (by omega)
        rw [hce]
        clear oc hpc hN hce
        go_wp2_with fail
        go_loopw [18, 19, 20, 104] (fun lx t _ i wr => ∃ (lv : Value) (k : Nat) (tt : Int), lv = lx ∧ k ≤ N ∧ i = .int .i64 (k : Int) ∧ tt = posI a (a + m) k - a ∧ t = .int .i64 tt ∧ Hid (OwnsV wc.heap.size wr 3 lv (intsV (consL (a / 128) k))) ∧ Hid (Below wc.heap.size wc wr)) (fun _ _ _ i _ => N - (intOf i).toNat)
        case atStart => exact ⟨_, 0, 0, rfl, Nat.zero_le _, rfl, by rw [hz0]; exact HS0.out.symm, rfl, Lib.hid (OwnsV.nil _ _ _), Lib.hid (Below.refl _ _)⟩
        case round =>
          obtain ⟨lv, k, tt, rfl, hk, rfl, htt, rfl, HO, HBL⟩ := hrel
          by_cases hlt : k < N
          · have hltI : (k : Int) < (N : Int) := by omega
            obtain ⟨gq, rfl, hgq, e0, e1, e2⟩ := HPC.out k hlt
            obtain ⟨f1, f2, f3, f4, f5, f6, f7⟩ := HPF.out k hlt
            have HPREV : Hid (∀ k', k = k' + 1 → (wc.cell? ⟨gq, k' * 3, none⟩ = some (.int .i64 (a / 128 + (k' : Int))) ∧ wc.cell? ⟨gq, k' * 3 + 2, none⟩ = some (.int .i64 128))) := Lib.hid (fun k' hk' => by
              obtain ⟨g2, hg2, _, p0, _, p2⟩ := HPC.out k' (by omega)
              obtain ⟨r1, _, _, _, r5, _, _⟩ := HPF.out k' (by omega)
              cases hg2
              rw [r1] at p0
              rw [r5 (by omega)] at p2
              exact ⟨p0, p2⟩)
            generalize (pieceP a (a + m) k).1 = x at *
            generalize (pieceP a (a + m) k).2.1 = y at *
            generalize (pieceP a (a + m) k).2.2 = z at *
            have d0 := (HBL.out.cell (p := ⟨gq, k * 3, none⟩) hgq).trans e0
            have d1 := (HBL.out.cell (p := ⟨gq, k * 3 + 1, none⟩) hgq).trans e1
            have d2 := (HBL.out.cell (p := ⟨gq, k * 3 + 2, none⟩) hgq).trans e2
            have hgr := Nat.lt_of_lt_of_le hgq HBL.out.size
            have bx := below_box wr (.cells #[.int .i64 x, .int .i64 y, .int .i64 z] 44)
            have nx := heap_alloc_new wr (.cells #[.int .i64 x, .int .i64 y, .int .i64 z] 44)
            have HBX : Hid (Below wc.heap.size wc (wr.alloc (.cells #[.int .i64 x, .int .i64 y, .int .i64 z] 44))) := Lib.hid (HBL.out.alloc HBL.out.size _)
            have HOX := Lib.hid (HO.out.alloc (.cells #[.int .i64 x, .int .i64 y, .int .i64 z] 44))
            have HLT := Lib.hid hgq
            have HF1 := Lib.hid f1
            have HF6 := Lib.hid (And.intro f6 htt)
            have httb : 0 ≤ tt ∧ tt ≤ 136192 := by omega
            clear f1 f5 f6 f7 htt
            clear e0 e1 e2 bx
            rcases Nat.lt_or_ge k 1 with hkp | hkp
            · skip
              have hgt : ¬ (0 : Int) < (k : Int) := by omega
              have hdk : decide ((0 : Int) < (k : Int)) = false := decide_eq_false hgt
              have hdk2 : decide (0 < k) = false := decide_eq_false (by omega)
              clear HPREV
              have X0 : (wr.alloc (.cells #[.int .i64 x, .int .i64 y, .int .i64 z] 44)).cell? ⟨wr.heap.size, 0, none⟩ = some (.int .i64 x) := (cell_of_row nx 0).trans rfl
              have X1 : (wr.alloc (.cells #[.int .i64 x, .int .i64 y, .int .i64 z] 44)).cell? ⟨wr.heap.size, 1, none⟩ = some (.int .i64 y) := (cell_of_row nx 1).trans rfl
              have X2 : (wr.alloc (.cells #[.int .i64 x, .int .i64 y, .int .i64 z] 44)).cell? ⟨wr.heap.size, 2, none⟩ = some (.int .i64 z) := (cell_of_row nx 2).trans rfl
              obtain ⟨wx, hwx0⟩ : ∃ v, wr.alloc (.cells #[.int .i64 x, .int .i64 y, .int .i64 z] 44) = v := ⟨_, rfl⟩
              rw [hwx0] at X0 X1 X2 nx HBX HOX
              have hsx : wr.heap.size < wx.heap.size := (Array.getElem?_eq_some_iff.1 nx).1
              have hq0 := cell_regrown X0
              have hq1 := cell_regrown X1
              have hq2 := cell_regrown X2
              have hzy : ¬ z ≤ y := by omega
              have hdz : decide (z ≤ y) = false := decide_eq_false hzy
              have hz128 : ¬ (128 : Int) < z := by omega
              have hdz2 : decide ((128 : Int) < z) = false := decide_eq_false hz128
              have hkI : (0 : Int) ≤ (k : Int) := by omega
              go_wp2_with fail
              refine wp_region_quiet_below (by kernel_rfl) (by kernel_rfl) ?_
              repeat (go_big_quiet_step (fail))
              refine wpQuiet_nil (regrown_name fun w20 b => ?_)
              have Y0 := (b.cell (p := ⟨wr.heap.size, 0, none⟩) hsx).trans X0
              have ny := (b.block wr.heap.size hsx).trans nx
              have HO20 := Lib.hid (HOX.out.below b)
              have HB20 : Hid (Below wc.heap.size wc w20) := Lib.hid (HBX.out.trans (b.mono HBX.out.size))
              have hs20 : wr.heap.size < w20.heap.size := Nat.lt_of_lt_of_le hsx b.size
              have HOLT : Hid (∀ q, lv.ownBlock = some q → q < wr.heap.size) := Lib.hid (fun q hq => (HO.out.lt q hq).2)
              have hcl : (intsV (consL (a / 128) k)).length = k := by rw [intsV_length, consL_length]
              have HCL := Lib.hid hcl
              have hzyw : IntKind.i64.wrap (z - y) = z - y := IntWalk.i64_in _ (by omega)
              have httw : IntKind.i64.wrap (tt + (z - y)) = tt + (z - y) := IntWalk.i64_in _ (by omega)
              clear hq0 hq1 hq2 X0 X1 X2 b hwx0 hcl d0 d1 d2 HOX HBX HO
              go_wp2_with (at_builtin; refine wpList_append_vals rfl _ _ _ rfl wc.heap.size 3 _ 8 Tryd.underlying42 info_int rfl lv (intsV (consL (a / 128) k)) rfl (HO20.out.alloc _) (some ⟨w20.heap.size, 0, none⟩) 1 1 rfl (intsV [x]) (ReadsV.lit w20 #[.int .i64 x] 3) (intsV_one [x]) (by rw [HCL.out]; omega) (by rw [HCL.out]; unfold maxLen; omega) (by have := HB20.out.size; simp; omega) ?_; intro v4 w4x h1' h2'; have O4 := Lib.hid (show OwnsV wc.heap.size w4x 3 v4 (intsV (consL (a / 128) (k + 1))) from by rw [consL_succ, ← HF1.out, intsV_append]; exact h1'); have G4 := Lib.hid (OwnsV.grown (HO20.out.alloc (.cells #[.int .i64 x] 3)) (HB20.out.alloc HB20.out.size _) (by have := HB20.out.size; simp; omega) h2'); have nz := (h2'.block wr.heap.size (by simp; omega) (fun e => by have := HOLT.out _ e.symm; omega)).trans ((Below.heap_alloc w20 (.cells #[.int .i64 x] 3) wr.heap.size hs20).trans ny); have Z1 : w4x.cell? ⟨wr.heap.size, 1, none⟩ = some (.int .i64 y) := (cell_of_row nz 1).trans rfl; have Z2 : w4x.cell? ⟨wr.heap.size, 2, none⟩ = some (.int .i64 z) := (cell_of_row nz 2).trans rfl; clear h1' h2' nz)
              go_roundw
              case rel => exact ⟨_, k + 1, tt + (z - y), rfl, by omega, by go_num, by have := HF6.out.1; have := HF6.out.2; omega, rfl, O4, G4⟩
              case measure => simp [intOf]; omega
            · skip
              have hgt : (0 : Int) < (k : Int) := by omega
              have hdk : decide ((0 : Int) < (k : Int)) = true := decide_eq_true hgt
              have hdk2 : decide (0 < k) = true := decide_eq_true hkp
              obtain ⟨k', hk'⟩ : ∃ k', k = k' + 1 := ⟨k - 1, by omega⟩
              obtain ⟨p0, p2⟩ := HPREV.out k' hk'
              have hy0 : y = 0 := f4 hkp
              have hyb : (y != 0) = false := by rw [hy0]; rfl
              clear hy0
              have hwk : IntKind.i64.wrap ((k : Int) - 1) = (k' : Int) := by rw [IntWalk.i64_in _ (by omega)]; omega
              have hwx : IntKind.i64.wrap (a / 128 + (k' : Int) + 1) = x := by rw [HF1.out, IntWalk.i64_in _ (by have := HI0.out; omega)]; omega
              have hxx : (x != x) = false := by simp
              have hpI : (0 : Int) ≤ (k' : Int) ∧ (k' : Int) < (N : Int) := by omega
              clear hk'
              have P0 := (HBX.out.cell (p := ⟨gq, k' * 3, none⟩) HLT.out).trans p0
              have P2 := (HBX.out.cell (p := ⟨gq, k' * 3 + 2, none⟩) HLT.out).trans p2
              have hr0 := cell_regrown P0
              have hr2 := cell_regrown P2
              clear p0 p2
              clear HPREV
              have X0 : (wr.alloc (.cells #[.int .i64 x, .int .i64 y, .int .i64 z] 44)).cell? ⟨wr.heap.size, 0, none⟩ = some (.int .i64 x) := (cell_of_row nx 0).trans rfl
              have X1 : (wr.alloc (.cells #[.int .i64 x, .int .i64 y, .int .i64 z] 44)).cell? ⟨wr.heap.size, 1, none⟩ = some (.int .i64 y) := (cell_of_row nx 1).trans rfl
              have X2 : (wr.alloc (.cells #[.int .i64 x, .int .i64 y, .int .i64 z] 44)).cell? ⟨wr.heap.size, 2, none⟩ = some (.int .i64 z) := (cell_of_row nx 2).trans rfl
              obtain ⟨wx, hwx0⟩ : ∃ v, wr.alloc (.cells #[.int .i64 x, .int .i64 y, .int .i64 z] 44) = v := ⟨_, rfl⟩
              rw [hwx0] at X0 X1 X2 nx HBX HOX P0 P2 hr0 hr2
              have hsx : wr.heap.size < wx.heap.size := (Array.getElem?_eq_some_iff.1 nx).1
              have hq0 := cell_regrown X0
              have hq1 := cell_regrown X1
              have hq2 := cell_regrown X2
              have hzy : ¬ z ≤ y := by omega
              have hdz : decide (z ≤ y) = false := decide_eq_false hzy
              have hz128 : ¬ (128 : Int) < z := by omega
              have hdz2 : decide ((128 : Int) < z) = false := decide_eq_false hz128
              have hkI : (0 : Int) ≤ (k : Int) := by omega
              go_wp2_with fail
              refine wp_region_quiet_below (by kernel_rfl) (by kernel_rfl) ?_
              repeat (go_big_quiet_step (fail))
              refine wpQuiet_nil (regrown_name fun w20 b => ?_)
              have Y0 := (b.cell (p := ⟨wr.heap.size, 0, none⟩) hsx).trans X0
              have ny := (b.block wr.heap.size hsx).trans nx
              have HO20 := Lib.hid (HOX.out.below b)
              have HB20 : Hid (Below wc.heap.size wc w20) := Lib.hid (HBX.out.trans (b.mono HBX.out.size))
              have hs20 : wr.heap.size < w20.heap.size := Nat.lt_of_lt_of_le hsx b.size
              have HOLT : Hid (∀ q, lv.ownBlock = some q → q < wr.heap.size) := Lib.hid (fun q hq => (HO.out.lt q hq).2)
              have hcl : (intsV (consL (a / 128) k)).length = k := by rw [intsV_length, consL_length]
              have HCL := Lib.hid hcl
              have hzyw : IntKind.i64.wrap (z - y) = z - y := IntWalk.i64_in _ (by omega)
              have httw : IntKind.i64.wrap (tt + (z - y)) = tt + (z - y) := IntWalk.i64_in _ (by omega)
              clear hq0 hq1 hq2 X0 X1 X2 b hwx0 hcl d0 d1 d2 HOX HBX HO P0 P2 hr0 hr2
              go_wp2_with (at_builtin; refine wpList_append_vals rfl _ _ _ rfl wc.heap.size 3 _ 8 Tryd.underlying42 info_int rfl lv (intsV (consL (a / 128) k)) rfl (HO20.out.alloc _) (some ⟨w20.heap.size, 0, none⟩) 1 1 rfl (intsV [x]) (ReadsV.lit w20 #[.int .i64 x] 3) (intsV_one [x]) (by rw [HCL.out]; omega) (by rw [HCL.out]; unfold maxLen; omega) (by have := HB20.out.size; simp; omega) ?_; intro v4 w4x h1' h2'; have O4 := Lib.hid (show OwnsV wc.heap.size w4x 3 v4 (intsV (consL (a / 128) (k + 1))) from by rw [consL_succ, ← HF1.out, intsV_append]; exact h1'); have G4 := Lib.hid (OwnsV.grown (HO20.out.alloc (.cells #[.int .i64 x] 3)) (HB20.out.alloc HB20.out.size _) (by have := HB20.out.size; simp; omega) h2'); have nz := (h2'.block wr.heap.size (by simp; omega) (fun e => by have := HOLT.out _ e.symm; omega)).trans ((Below.heap_alloc w20 (.cells #[.int .i64 x] 3) wr.heap.size hs20).trans ny); have Z1 : w4x.cell? ⟨wr.heap.size, 1, none⟩ = some (.int .i64 y) := (cell_of_row nz 1).trans rfl; have Z2 : w4x.cell? ⟨wr.heap.size, 2, none⟩ = some (.int .i64 z) := (cell_of_row nz 2).trans rfl; clear h1' h2' nz)
              go_roundw
              case rel => exact ⟨_, k + 1, tt + (z - y), rfl, by omega, by go_num, by have := HF6.out.1; have := HF6.out.2; omega, rfl, O4, G4⟩
              case measure => simp [intOf]; omega
          · obtain rfl : k = N := by omega
            have hltI : ¬ (k : Int) < (k : Int) := by omega
            have hcl : (intsV (consL (a / 128) k)).length = k := by rw [intsV_length, consL_length]
            obtain ⟨la, lc, rfl, hlr, hl1, hl2⟩ := HO.out.reads
            rw [hcl] at hlr hl1 ⊢
            have HBW : Hid (Below w.heap.size w wr) := Lib.hid (HBc.out.trans (HBL.out.mono HBc.out.size))
            have hroom := costL_room (i := a / 128) HI0.out (m := k) HN0.out
            have HCO := Lib.hid (cost_is (consL (a / 128) k) la k lc wr (HW.out.below HBW.out) (readsI_of_V hlr) (fun x hx => by
              have := consL_mem.1 hx
              have := HN0.out
              have := HI0.out
              unfold I64; omega) (by omega))
            obtain ⟨c, hc⟩ : ∃ c, costL (consL (a / 128) k) = c := ⟨_, rfl⟩
            rw [hc] at HCO hroom
            obtain ⟨ci, hci⟩ : ∃ ci : Int, (c : Int) = ci := ⟨_, rfl⟩
            rw [hci] at HCO
            have hc1 : (k : Int) + 1 ≤ ci := by omega
            have hc2 : ci ≤ (k : Int) + 3 + ((k / 32 : Nat) : Int) + 1 := by omega
            have htm : tt = m := by rw [htt, HZN.out]; omega
            subst htm
            have hmm2 : (tt == tt) = true := by simp
            have hw1 : IntKind.i64.wrap ((k : Int) + 1) = (k : Int) + 1 := IntWalk.i64_in _ (by omega)
            have hw3 : IntKind.i64.wrap ((k : Int) + 3) = (k : Int) + 3 := IntWalk.i64_in _ (by omega)
            have hdv : (k : Int).tdiv 32 = ((k / 32 : Nat) : Int) := by rw [Int.ofNat_tdiv]; rfl
            obtain ⟨dv, hdve⟩ : ∃ dv : Int, ((k / 32 : Nat) : Int) = dv := ⟨_, rfl⟩
            rw [hdve] at hdv hc2
            have hdvb : 0 ≤ dv ∧ dv ≤ 100 := by omega
            have hwd : IntKind.i64.wrap dv = dv := IntWalk.i64_in _ (by omega)
            have hw4 : IntKind.i64.wrap ((k : Int) + 3 + dv) = (k : Int) + 3 + dv := IntWalk.i64_in _ (by omega)
            have hw5 : IntKind.i64.wrap ((k : Int) + 3 + dv + 1) = (k : Int) + 3 + dv + 1 := IntWalk.i64_in _ (by omega)
            have hdc1 : decide ((k : Int) + 1 ≤ ci) = true := decide_eq_true hc1
            have hdc2 : decide (ci ≤ (k : Int) + 3 + dv + 1) = true := decide_eq_true hc2
            have hwam : IntKind.i64.wrap (a + tt) = a + tt := IntWalk.i64_in _ (by omega)
            have hz32 : ((32 : Int) == 0) = false := rfl
            have HBKS := Lib.hid (fun W : World => (pblocks_is (a + tt) W (by unfold I64; omega)).mono (R' := fun e w' => e = .returned (.int .i64 (blocksI (a + tt))) ∧ Below W.heap.size W w') (by rintro e w' ⟨h1, rfl⟩; exact ⟨h1, Below.refl _ _⟩))
            have HCC := Lib.hid (And.intro hci hdve)
            have HLR := Lib.hid hlr
            clear hc hci hdve hroom htt HO HBL hlr hl1 hcl hc1 hc2 hdvb
            go_wp2_with fail
            refine HCO.out.mono ?_
            rintro e w6 ⟨rfl, b⟩
            have HB6 : Hid (Below w.heap.size w w6) := Lib.hid (HBW.out.trans (b.mono HBW.out.size))
            have HLR6 := Lib.hid (HLR.out.below b)
            clear b HLR HCO
            by_cases hm00 : tt = 0
            · have hmz : (tt == 0) = true := by rw [hm00]; rfl
              have HM00 := Lib.hid hm00
              clear hm00 HBKS
              go_wp2_with fail
              refine wp_region_quiet_below (by kernel_rfl) (by kernel_rfl) ?_
              repeat (go_big_quiet_step (fail))
              refine wpQuiet_nil (regrown_name fun w20 b => ?_)
              have HBZ : Hid (Below w.heap.size w w20) := HB6.out.trans (b.mono HB6.out.size)
              go_wp2
              go_ret
              exact ⟨by simp, HBZ.out⟩
            · have hmz : (tt == 0) = false := beq_eq_false_iff_ne.2 hm00
              obtain ⟨hkpos, hblk⟩ := HBK.out (by omega)
              obtain ⟨k1, hk1⟩ : ∃ k1, k = k1 + 1 := ⟨k - 1, by omega⟩
              obtain ⟨lg, loff, rfl, hlg, hlc⟩ := HLR6.out.at (i := k1) (u := .int .i64 (a / 128 + (k1 : Int))) (by unfold intsV; rw [List.getElem?_map, consL_get (by omega)]; rfl)
              rw [hblk] at HBKS
              have hwk1 : IntKind.i64.wrap ((k : Int) - 1) = (k1 : Int) := by rw [IntWalk.i64_in _ (by omega)]; omega
              have hk1I : (0 : Int) ≤ (k1 : Int) ∧ (k1 : Int) < (k : Int) := by omega
              have hlast : a / 128 + (k1 : Int) = a / 128 + ((k : Int) - 1) := by omega
              rw [hlast] at hlc
              obtain ⟨lx, hlx⟩ : ∃ lx, a / 128 + ((k : Int) - 1) = lx := ⟨_, rfl⟩
              rw [hlx] at hlc HBKS
              have hwlx : IntKind.i64.wrap (lx + 1) = lx + 1 := by
                have := HI0.out
                have := HN0.out
                exact IntWalk.i64_in _ (by omega)
              have hlxx : (lx + 1 == lx + 1) = true := by simp
              have hlcr := cell_regrown hlc
              clear hblk hk1 hlast hlx hm00
              go_wp2_with fail
              refine wp_region_quiet_below (by kernel_rfl) (by kernel_rfl) ?_
              repeat (go_big_quiet_step ((go_at_call 10; exact Calls.regrown_of (HBKS.out _))))
              refine wpQuiet_nil (regrown_name fun w20 b => ?_)
              have HBZ : Hid (Below w.heap.size w w20) := HB6.out.trans (b.mono HB6.out.size)
              go_wp2
              go_ret
              exact ⟨by simp, HBZ.out⟩
      · rw [cutRows_none hce] at oc
        obtain ⟨pv, pcp, rfl, _⟩ := rows_at oc
        have hor := cutE_not hm0.1 hce
        obtain ⟨E2, hE2⟩ : ∃ x, cutE a m = x := ⟨_, rfl⟩
        rw [hE2] at hce ⊢
        have hne : (E2 != 0) = true := by simpa using hce
        have hsub : IntKind.i64.wrap (136192 - m) = 136192 - m := IntWalk.i64_in _ (by omega)
        clear oc hce hE2
        by_cases hneg : a < 0
        · have hd0 : decide (a < 0) = true := decide_eq_true hneg
          go_wp2
          go_ret
          exact ⟨by simp, HBc.out⟩
        · have hd0 : decide (a < 0) = false := decide_eq_false hneg
          have hbig : 136192 - m < a := by omega
          have hd1 : decide (136192 - m < a) = true := decide_eq_true hbig
          go_wp2
          go_ret
          exact ⟨by simp, HBc.out⟩
end Go.Proofs.YtcpbffmffoneeaaDoor
