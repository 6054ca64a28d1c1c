/- A block of a directory, written (dirent.Write). -/
import Derived.Test.YtgakidimipipeaaGreatGpifaoonp
import Derived.Test.YtgakidimipipeaaGreatGkjcciiaj
import Derived.Test.YtgakidimipipeaaGreatGfdnlnbbm
import Derived.Deep.DeepCutAuto
namespace Go.Proofs.YtgakidimipipeaaGreat
open Go.RowKit Go.Sort
set_option linter.unusedVariables false
set_option linter.unusedSimpArgs false
set_option maxRecDepth 100000

theorem entV_extract : ∀ (E : List Ent) (j : Nat) (x : Ent), E[j]? = some x → ((E.flatMap entV).drop (j * 2)).take 2 = entV x
  | [], _, _, h => by simp at h
  | y :: E, 0, x, h => by
    obtain rfl : y = x := by simpa using h
    rw [List.flatMap_cons]
    rfl
  | y :: E, j + 1, x, h => by
    rw [List.flatMap_cons]
    have e1 : (j + 1) * 2 = 2 + j * 2 := by omega
    rw [e1, ← List.drop_drop]
    exact entV_extract E j x (by simpa using h)
theorem csE_extract {E : List Ent} {j : Nat} {x : Ent} (h : E[j]? = some x) : (csE E).extract (j * 2) (j * 2 + 2) = #[.int .i64 x.1, .string x.2] := by
  unfold csE
  rw [List.extract_toArray]
  have : (E.flatMap entV).extract (j * 2) (j * 2 + 2) = entV x := by
    unfold List.extract
    rw [Nat.add_sub_cancel_left]
    exact entV_extract E j x h
  rw [this]
  rfl
theorem run_size_ent (w : World) : (sizeOf 47).run Tryz.prog w = .ok 2 w := by kernel_rfl
theorem run_agg_ent (w : World) : (isAgg 47).run Tryz.prog w = .ok true w := by kernel_rfl
theorem csE_size (E : List Ent) : (csE E).size = E.length * 2 := by unfold csE; rw [List.size_toArray, entV_len]
theorem run_index_blk {E : List Ent} (hE : E.length = 4) {j : Nat} {x : Ent} (h : E[j]? = some x) (w : World) : (Instr.index 48 (.agg (csE E)) (.int .i64 (j : Int))).run Tryz.prog w = .ok (.agg #[.int .i64 x.1, .string x.2]) w := by
  have hj : j < 4 := by rw [← hE]; exact (List.getElem?_eq_some_iff.1 h).1
  unfold Instr.index
  simp only [asIntOf, Sem.run_bind, Sem.run_pure, Result.andThen_ok, run_underlying Tryz.underlying48, run_size_ent]
  rw [if_pos ⟨by omega, by omega⟩]
  simp only [Sem.run_bind, run_size_ent, Result.andThen_ok, Int.toNat_natCast]
  unfold part
  simp only [Sem.run_bind, run_agg_ent, Result.andThen_ok, if_true, run_size_ent, Sem.run_pure]
  rw [csE_extract h]
theorem size_blk : (Tryz.prog.info? 48).map (·.size) = some 8 := by kernel_rfl
theorem row_blk : ∃ d, Tryz.prog.underlying 48 = some d ∧ d.isRow = true := by
  cases h : Tryz.prog.underlying 48 with
  | none => exact absurd h (by decide)
  | some d =>
    refine ⟨d, rfl, ?_⟩
    have : (Tryz.prog.underlying 48).map (·.isRow) = some true := by kernel_rfl
    rw [h] at this
    simpa using this
theorem laid_all2 {b : List Nat} (h : b.length = 128) : laid (cells noughts) 0 (b.take 128) = cells b := by
  rw [List.take_of_length_le (by omega)]
  have hn : noughts.length = 128 := rfl
  unfold laid cells
  simp [h, hn]
def writeDb (E : List Ent) : List Nat × Int := if E.all mayD = true then (wrB (blkF E), 0) else (noughts, 1)
set_option maxHeartbeats 3200000 in
theorem writeDb_is {E : List Ent} (hE : E.length = 4) (hz : ∀ x ∈ E, I64 x.1 ∧ x.2.size ≤ 100000) (w : World) :
    Calls Tryz.prog 11 #[.agg (csE E)] w fun e w' => e = .returned (.tuple #[.agg (cells (writeDb E).1), .int .i64 (writeDb E).2]) ∧ Below w.heap.size w w' := by
  have hzs := zero_sector
  have hbld := build_sector
  obtain ⟨d, hd1, hd2⟩ := row_blk
  have hsi : (Tryz.prog.info? 48).map (·.size) = some (E.flatMap entV).length := by rw [entV_len, hE]; exact size_blk
  have b1 := below_box w (.cells (csE E) 48)
  have n1 := heap_alloc_new w (.cells (csE E) 48)
  obtain ⟨w1, hw1⟩ : ∃ w1, w.alloc (.cells (csE E) 48) = w1 := ⟨_, rfl⟩
  have hs1 : w1.heap.size = w.heap.size + 1 := by rw [← hw1]; simp
  rw [hw1] at b1 n1
  have b2 := below_box w1 (.cells (cells noughts) 31)
  have n2 := heap_alloc_new w1 (.cells (cells noughts) 31)
  have n1' := (b2.block w.heap.size (by omega)).trans n1
  have HB := Lib.hid (below_next b1 b2)
  rw [hs1] at n2
  obtain ⟨w2, hw2⟩ : ∃ w2, w1.alloc (.cells (cells noughts) 31) = w2 := ⟨_, rfl⟩
  rw [hw2] at n2 n1' HB
  have hs2 : w2.heap.size = w.heap.size + 2 := by rw [← hw2]; simp [hs1]
  have hr1 : w2.rangeAt w.heap.size 0 (E.flatMap entV) := row_range n1'
  have HR1 := Lib.hid hr1
  have HN2 := Lib.hid n2
  have HN1 := Lib.hid n1'
  have HE := Lib.hid hE
  have HZ := Lib.hid hz
  have HD1 := Lib.hid hd1
  have HSI := Lib.hid hsi
  have HS2 : Hid (w.heap.size + 1 < w2.heap.size) := Lib.hid (by omega)
  clear b1 n1 b2 n2 n1' hr1 hE hz hd1 hsi
  go_enter Tryz.func11, Tryz.ntmps11
  go_wp2_with (refine wpList_load_mid rfl 48 _ rfl w.heap.size 0 rfl (E.flatMap entV) d HR1.out HD1.out hd2 HSI.out ?_)
  clear hw1 hw2 hs1 hs2
  go_loopw [10] (fun i wr => ∃ j : Nat, j ≤ 4 ∧ i = .int .i64 j ∧ Hid (Below w2.heap.size w2 wr) ∧ Hid (∀ i x, i < j → E[i]? = some x → mayD x = true)) (fun i _ => 4 - (intOf i).toNat)
  case atStart => exact ⟨0, by decide, rfl, Lib.hid (Below.refl _ _), Lib.hid (fun i x hi => by omega)⟩
  case round =>
    obtain ⟨j, hj, rfl, HBL, HOK⟩ := hrel
    have hsw : w.heap.size + 1 < wr.heap.size := Nat.lt_of_lt_of_le HS2.out HBL.out.size
    by_cases hlt : j < 4
    · have hjI : (0 : Int) ≤ (j : Int) ∧ (j : Int) < 4 := by omega
      obtain ⟨⟨z, s⟩, ex⟩ : ∃ x, E[j]? = some x := ⟨_, List.getElem?_eq_getElem (by rw [HE.out]; exact hlt)⟩
      have hidx := run_index_blk HE.out ex
      unfold csE at hidx
      dsimp only at hidx
      obtain ⟨z1, z2⟩ := HZ.out (z, s) (List.mem_of_getElem? ex)
      have hfit : Fit s := by unfold Fit; dsimp only at z2; omega
      have HM := Lib.hid (fun (W : World) => may_is z s W hfit)
      have HEX := Lib.hid ex
      have HBX := Lib.hid (below_next HBL.out (below_box wr (.cells #[.int .i64 z, .string s] 47)))
      clear ex z1 z2 hfit
      go_wp2_with fail
      refine (HM.out _).mono ?_
      rintro e w3 ⟨rfl, b3⟩
      have HB3 : Hid (Below w2.heap.size w2 w3) := Lib.hid (below_next HBX.out b3)
      clear b3 hidx HM
      cases hm : mayD (z, s) with
      | true =>
        have HMY := Lib.hid hm
        clear hm
        go_wp2
        go_roundw
        case rel =>
          refine ⟨j + 1, by omega, by simp, HB3, Lib.hid fun i x hi hx => ?_⟩
          by_cases hij : i = j
          · subst hij
            have := hx.symm.trans HEX.out
            cases this
            exact HMY.out
          · exact HOK.out i x (by omega) hx
        case measure => simp [intOf]; omega
      | false =>
        have HF : Hid (writeDb E = (noughts, 1)) := Lib.hid (if_neg (fun h => by have := List.all_eq_true.1 h (z, s) (List.mem_of_getElem? HEX.out); rw [hm] at this; cases this))
        have n3 := (HB3.out.block (w.heap.size + 1) HS2.out).trans HN2.out
        have HBW : Hid (Below w.heap.size w w3) := Lib.hid (below_next HB.out HB3.out)
        have hd9 := setRow_heap w3 (w.heap.size + 1) _ (cells noughts) _ _ n3
        have hb9 := below_setRow (g := w.heap.size + 1) HBW.out (by omega) (cells noughts)
        have HD9 := Lib.hid hd9
        have HB9 := Lib.hid hb9
        clear hm hd9 hb9
        go_wp2_with (refine wpList_store_sector rfl _ _ rfl (w.heap.size + 1) noughts rfl rfl rfl _ _ n3 rfl ?_)
        refine bodyPost_ret (results_sector rfl _ _ (w.heap.size + 1) noughts _ _ rfl HD9.out rfl) rfl ?_
        exact ⟨by rw [HF.out]; rfl, HB9.out⟩
    · obtain rfl : j = 4 := by omega
      have hall : E.all mayD = true := by
        refine List.all_eq_true.2 fun x hx => ?_
        obtain ⟨i, hi⟩ := List.getElem?_of_mem hx
        exact HOK.out i x (by have := (List.getElem?_eq_some_iff.1 hi).1; have := HE.out; omega) hi
      have HF : Hid (writeDb E = (wrB (blkF E), 0)) := Lib.hid (if_pos hall)
      obtain ⟨hwf, hwl, hwb8, hwy⟩ := blk_facts HE.out hall
      clear hwl hwy
      have hz29 : ∀ x ∈ E, I64 x.1 ∧ x.2.data.toList.length ≤ 29 := fun x hx => ⟨(HZ.out x hx).1, by have := (mayD_facts (List.all_eq_true.1 hall x hx)).2.2; omega⟩
      have nr1 := (HBL.out.block w.heap.size (by have := HS2.out; omega)).trans HN1.out
      have hrr : wr.rangeAt w.heap.size 0 (E.flatMap entV) := row_range nr1
      have HRR := Lib.hid hrr
      have HPW := Lib.hid (pwrite_block HE.out hz29 wr)
      have HWF := Lib.hid hwf
      have nr2 := (HBL.out.block (w.heap.size + 1) HS2.out).trans HN2.out
      have HNR2 := Lib.hid nr2
      have HBW : Hid (Below w.heap.size w wr) := Lib.hid (below_next HB.out HBL.out)
      clear hall hwf hz29 nr1 hrr nr2 HOK
      go_wp2_with (refine wpList_load_mid rfl 48 _ rfl w.heap.size 0 rfl (E.flatMap entV) d HRR.out HD1.out hd2 HSI.out ?_)
      refine HPW.out.mono ?_
      rintro e w4 ⟨b4, ⟨hf, rfl⟩ | ⟨hf, v, rfl, ho⟩⟩
      · rw [HWF.out] at hf; cases hf
      · have n4 := (b4.block (w.heap.size + 1) hsw).trans HNR2.out
        obtain ⟨a4, cap4, rfl, hr4, hl4, hc4⟩ := ho.reads
        rw [hwb8] at hr4 hl4 ⊢
        have HB4 : Hid (Below w.heap.size w w4) := Lib.hid (below_next HBW.out b4)
        have hs4 : w.heap.size + 2 ≤ w4.heap.size := by have := b4.size; omega
        have nz := heap_alloc_new w4 (.cells (cells noughts) 31)
        have hr5 := hr4.alloc (.cells (cells noughts) 31)
        have b5 := below_box w4 (.cells (cells (wrB (blkF E))) 31)
        have n5 := heap_alloc_new w4 (.cells (cells (wrB (blkF E))) 31)
        have e5 := World.setRow_alloc_new w4 (cells noughts) (cells (wrB (blkF E))) 31
        obtain ⟨w5, hw5⟩ : ∃ w5, w4.alloc (.cells (cells (wrB (blkF E))) 31) = w5 := ⟨_, rfl⟩
        rw [hw5] at b5 n5 e5
        have n45 := (b5.block (w.heap.size + 1) (by omega)).trans n4
        have HB5 : Hid (Below w.heap.size w w5) := Lib.hid (below_next HB4.out b5)
        have HC5 := Lib.hid (block_cells hwb8 n5)
        have hd9 := setRow_heap w5 (w.heap.size + 1) _ (cells (wrB (blkF E))) _ _ n45
        have hb9 := below_setRow (g := w.heap.size + 1) HB5.out (by omega) (cells (wrB (blkF E)))
        have hla := laid_all2 hwb8
        clear b4 ho hr4 HB4 b5 n5 hw5 hf n4
        go_wp2_with (first | (refine wpList_copy_bytes rfl (.tmp 23) (.tmp 24) rfl _ _ _ rfl _ _ _ rfl (wrB (blkF E)) hr5 w4.heap.size 0 (cells noughts) _ nz 128 (by decide) (fun _ => rfl) (by rw [cells_size]; decide) ?_; rw [hla, e5]) | refine wpList_load_sector rfl _ rfl w4.heap.size 0 (wrB (blkF E)) rfl hwb8 HC5.out ?_ | refine wpList_store_sector rfl _ _ rfl (w.heap.size + 1) (wrB (blkF E)) rfl rfl hwb8 _ _ n45 rfl ?_)
        refine bodyPost_ret (results_sector rfl _ _ (w.heap.size + 1) (wrB (blkF E)) _ _ rfl hd9 hwb8) rfl ?_
        exact ⟨by rw [HF.out]; rfl, hb9⟩
end Go.Proofs.YtgakidimipipeaaGreat
