/- The law DirentFinds, walked. -/
import Derived.Test.YtpnafikmbbnecaaDir21
namespace Go.Proofs.Ytpnafikmbbnecaa
open Go.RowKit Go.Sort
set_option linter.unusedVariables false
set_option linter.unusedSimpArgs false
set_option maxRecDepth 100000

set_option maxHeartbeats 3200000 in
theorem direntFinds_walk {E : List Ent} (hE : E.length = 4) (nm : ByteArray) (w : World) :
    Calls Try.prog 4 #[.agg (csE E), .string nm] w fun e w' => e = .returned (.bool true) ∧ Below w.heap.size w w' := by
  obtain ⟨dR, hdr1, hdr2⟩ := row_rblk
  obtain ⟨dC, hdc1, hdc2⟩ := row_blk
  have HDR := Lib.hid hdr1
  have HDC := Lib.hid hdc1
  have HSR : Hid ((Try.prog.info? 33).map (·.size) = some (E.flatMap entV).length) := Lib.hid (by rw [entV_len, hE]; exact size_rblk)
  have HSC : Hid ((Try.prog.info? 28).map (·.size) = some (E.flatMap entV).length) := Lib.hid (by rw [entV_len, hE]; exact size_blk)
  have HSX : Hid ((Try.prog.info? 28).map (·.size) = some (csE E).size) := Lib.hid (by rw [csE_size, hE]; exact size_blk)
  have HOX : Hid ((csE zeroE).size = (csE E).size) := Lib.hid (by rw [csE_size, csE_size, hE]; rfl)
  have HNX := Lib.hid (csE_one E)
  have HOW := Lib.hid (fun W : World => own_is hE W)
  have HFI := Lib.hid (fun W : World => find_is hE nm W)
  have HRO := Lib.hid (fun W : World => room_is hE W)
  have HCO := Lib.hid (fun W : World => count_is hE W)
  have hzb := zero_blk
  have b1 := below_box w (.cells (csE E) 33)
  have n1 := heap_alloc_new w (.cells (csE E) 33)
  obtain ⟨w1, hw1⟩ : ∃ w1, w.alloc (.cells (csE E) 33) = w1 := ⟨_, rfl⟩
  have hs1 : w1.heap.size = w.heap.size + 1 := by rw [← hw1]; simp
  rw [hw1] at b1 n1
  have HB1 := Lib.hid b1
  have HE := Lib.hid hE
  clear b1 hE hdr1 hdc1
  go_enter Try.func4, Try.ntmps4
  go_wp2_with fail
  refine (awake6_true w1).mono ?_
  rintro e w2 ⟨rfl, b2⟩
  have nl := (b2.block w.heap.size (by omega)).trans n1
  have HB : Hid (Below w.heap.size w w2) := Lib.hid (HB1.out.trans (b2.mono HB1.out.size))
  have hsz2 : w.heap.size < w2.heap.size := (Array.getElem?_eq_some_iff.1 nl).1
  have HN2 := Lib.hid nl
  clear b2 n1 hw1 hs1 HB1
  go_wp2_with fail
  go_loop [5, 6, 7, 8] (fun f r c i => ∃ (j : Nat) (v : Int), j ≤ 4 ∧ v = (j : Int) - 1 ∧ i = .int .i64 v ∧ f = .int .i64 (fromE (nameP nm) E j) ∧ r = .int .i64 (fromE freeE E j) ∧ c = .int .i64 (cntE takenE E j : Nat)) (fun _ _ _ i => (intOf i + 1).toNat)
  case atStart => exact ⟨4, 3, by decide, by decide, rfl, by rw [fromE_end (by rw [HE.out]; exact Nat.le_refl _)], by rw [fromE_end (by rw [HE.out]; exact Nat.le_refl _)], by rw [cntE_end (by rw [HE.out]; exact Nat.le_refl _)]; rfl⟩
  case round =>
    obtain ⟨j, v, hj, hv, rfl, rfl, rfl, rfl⟩ := hrel
    by_cases hlt : 0 < j
    · obtain ⟨k, rfl⟩ : ∃ k, j = k + 1 := ⟨j - 1, by omega⟩
      obtain rfl : v = (k : Int) := by omega
      have hjI : (0 : Int) ≤ (k : Int) ∧ (k : Int) < 4 := by omega
      obtain ⟨⟨z, s⟩, ex⟩ : ∃ x, E[k]? = some x := ⟨_, List.getElem?_eq_getElem (by rw [HE.out]; omega)⟩
      obtain ⟨g1, g2⟩ := csE_get ex
      have c0 : w2.cell? ⟨w.heap.size, k * 2, none⟩ = some (.int .i64 z) := (cell_of_row HN2.out (k * 2)).trans g1
      have c1 : w2.cell? ⟨w.heap.size, k * 2 + 1, none⟩ = some (.string s) := (cell_of_row HN2.out (k * 2 + 1)).trans g2
      have hcs := cntE_step (p := takenE) ex
      have hcl := cntE_le takenE E (k + 1)
      rw [HE.out] at hcl
      have HEX := Lib.hid ex
      clear ex g1 g2 hv
      cases hz : (z == 0) with
      | true =>
        have ht : takenE (z, s) = false := by unfold takenE; dsimp only; rw [hz]; rfl
        rw [ht, if_neg (by decide), Nat.zero_add] at hcs
        have HR : Hid (fromE freeE E k = (k : Int)) := Lib.hid (fromE_yes HEX.out hz)
        have HF : Hid (fromE (nameP nm) E k = fromE (nameP nm) E (k + 1)) := Lib.hid (fromE_no HEX.out (by unfold nameP; dsimp only; rw [hz]; rfl))
        have HC := Lib.hid hcs
        clear hcs ht hcl
        go_wp2
        go_round
        case rel => exact ⟨k, (k : Int) - 1, by omega, rfl, by go_num, by rw [HF.out], by rw [HR.out], by rw [HC.out]⟩
        case measure => simp [intOf]
      | false =>
        have ht : takenE (z, s) = true := by unfold takenE; dsimp only; rw [hz]; rfl
        rw [ht, if_pos rfl] at hcs
        have HR : Hid (fromE freeE E k = fromE freeE E (k + 1)) := Lib.hid (fromE_no HEX.out hz)
        have HC := Lib.hid hcs
        obtain ⟨c, hc⟩ : ∃ c, cntE takenE E (k + 1) = c := ⟨_, rfl⟩
        rw [hc] at HC hcl ⊢
        clear hcs ht
        cases hnm : (s.toList == nm.toList) with
        | true =>
          have HF : Hid (fromE (nameP nm) E k = (k : Int)) := Lib.hid (fromE_yes HEX.out (by unfold nameP; dsimp only; rw [hz, hnm]; rfl))
          go_wp2
          go_round
          case rel => exact ⟨k, (k : Int) - 1, by omega, rfl, by go_num, by rw [HF.out], by rw [HR.out], by rw [HC.out, Nat.add_comm]; go_num⟩
          case measure => simp [intOf]
        | false =>
          have HF : Hid (fromE (nameP nm) E k = fromE (nameP nm) E (k + 1)) := Lib.hid (fromE_no HEX.out (by unfold nameP; dsimp only; rw [hz, hnm]; rfl))
          go_wp2
          go_round
          case rel => exact ⟨k, (k : Int) - 1, by omega, rfl, by go_num, by rw [HF.out], by rw [HR.out], by rw [HC.out, Nat.add_comm]; go_num⟩
          case measure => simp [intOf]
    · obtain rfl : j = 0 := by omega
      obtain ⟨fv, hfv⟩ : ∃ x, fromE (nameP nm) E 0 = x := ⟨_, rfl⟩
      obtain ⟨rv, hrv⟩ : ∃ x, fromE freeE E 0 = x := ⟨_, rfl⟩
      obtain ⟨cv, hcv⟩ : ∃ x, cntE takenE E 0 = x := ⟨_, rfl⟩
      rw [hfv] at HFI ⊢
      rw [hrv] at HRO ⊢
      rw [hcv] at HCO ⊢
      have hvn : ¬ (0 : Int) ≤ v := by omega
      have HRL := Lib.hid (row_range HN2.out)
      clear hfv hrv hcv
      go_wp2_with (refine wpList_load_mid rfl 33 _ rfl w.heap.size 0 rfl (E.flatMap entV) dR HRL.out HDR.out hdr2 HSR.out ?_)
      clear HRL
      refine (HOW.out w2).mono ?_
      rintro e w3 ⟨rfl, b⟩
      have nl' := (b.block w.heap.size (by omega)).trans nl
      clear nl
      have nl := nl'
      clear nl'
      have HB0 : Hid (Below w.heap.size w w3) := HB.out.trans (b.mono HB.out.size)
      clear HB
      have HB := HB0
      clear HB0
      have hszw3 := b.size
      clear b
      have nzA := heap_alloc_new w3 (.cells (csE zeroE) 28)
      have bbA := below_box w3 (.cells (csE E) 28)
      have nA := heap_alloc_new w3 (.cells (csE E) 28)
      have eA := World.setRow_alloc_new w3 (csE zeroE) (csE E) 28
      obtain ⟨w4, hwA⟩ : ∃ wx, w3.alloc (.cells (csE E) 28) = wx := ⟨_, rfl⟩
      rw [hwA] at bbA nA eA
      have hsA : w4.heap.size = w3.heap.size + 1 := by rw [← hwA]; simp
      have nl' := (bbA.block w.heap.size (by omega)).trans nl
      clear nl
      have nl := nl'
      clear nl'
      have HB0 : Hid (Below w.heap.size w w4) := HB.out.trans (bbA.mono HB.out.size)
      clear HB
      have HB := HB0
      clear HB0
      have hszw4 := bbA.size
      clear bbA
      clear hwA
      obtain ⟨mA, hmA⟩ : ∃ m, w3.heap.size = m := ⟨_, rfl⟩
      rw [hmA] at nzA nA eA hsA
      have hltAnl : w.heap.size < mA := by omega
      have HRA := Lib.hid (row_range nA)
      go_wp2_with (first
        | (refine wpList_store_row rfl 28 _ _ rfl mA (csE E) rfl rfl _ _ nzA HSX.out HOX.out HNX.out ?_; rw [eA])
        | refine wpList_load_mid rfl 28 _ rfl mA 0 rfl (E.flatMap entV) dC HRA.out HDC.out hdc2 HSC.out ?_)
      clear nzA eA HRA hmA
      refine (HFI.out w4).mono ?_
      rintro e w5 ⟨rfl, b⟩
      have nl' := (b.block w.heap.size (by omega)).trans nl
      clear nl
      have nl := nl'
      clear nl'
      have nA' := (b.block mA (by omega)).trans nA
      clear nA
      have nA := nA'
      clear nA'
      have HB0 : Hid (Below w.heap.size w w5) := HB.out.trans (b.mono HB.out.size)
      clear HB
      have HB := HB0
      clear HB0
      have hszw5 := b.size
      clear b
      have HRA := Lib.hid (row_range nA)
      go_wp2_with (refine wpList_load_mid_want rfl 28 _ rfl mA 0 rfl (E.flatMap entV) dC HRA.out HDC.out hdc2 HSC.out ?_)
      clear HRA
      refine (HRO.out w5).mono ?_
      rintro e w6 ⟨rfl, b⟩
      have nl' := (b.block w.heap.size (by omega)).trans nl
      clear nl
      have nl := nl'
      clear nl'
      have nA' := (b.block mA (by omega)).trans nA
      clear nA
      have nA := nA'
      clear nA'
      have HB0 : Hid (Below w.heap.size w w6) := HB.out.trans (b.mono HB.out.size)
      clear HB
      have HB := HB0
      clear HB0
      have hszw6 := b.size
      clear b
      have HRA := Lib.hid (row_range nA)
      go_wp2_with (refine wpList_load_mid_want rfl 28 _ rfl mA 0 rfl (E.flatMap entV) dC HRA.out HDC.out hdc2 HSC.out ?_)
      clear HRA
      refine (HCO.out w6).mono ?_
      rintro e w7 ⟨rfl, b⟩
      have nl' := (b.block w.heap.size (by omega)).trans nl
      clear nl
      have nl := nl'
      clear nl'
      have nA' := (b.block mA (by omega)).trans nA
      clear nA
      have nA := nA'
      clear nA'
      have HB0 : Hid (Below w.heap.size w w7) := HB.out.trans (b.mono HB.out.size)
      clear HB
      have HB := HB0
      clear HB0
      have hszw7 := b.size
      clear b
      go_wp2
      go_ret
      exact ⟨by simp, HB.out⟩
end Go.Proofs.Ytpnafikmbbnecaa
