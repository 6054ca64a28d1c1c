/- The law's own: the program's entries of the document's. -/
import Derived.Test.YtpnafikmbbnecaaDir10
namespace Go.Proofs.Ytpnafikmbbnecaa
open Go.RowKit Go.Sort
set_option linter.unusedVariables false
set_option linter.unusedSimpArgs false
set_option maxRecDepth 100000

theorem run_size_rent (w : World) : (sizeOf 32).run Try.prog w = .ok 2 w := by kernel_rfl
theorem run_agg_rent (w : World) : (isAgg 32).run Try.prog w = .ok true w := by kernel_rfl
theorem run_index_rblk {E : List Ent} (hE : E.length = 4) {j : Nat} {x : Ent} (h : E[j]? = some x) (w : World) : (Instr.index 33 (.agg (csE E)) (.int .i64 (j : Int))).run Try.prog w = .ok (.agg #[.int .i64 x.1, .string x.2]) w := by
  have hj : j < 4 := by rw [← hE]; exact (List.getElem?_eq_some_iff.1 h).1
  unfold Instr.index
  simp only [asIntOf, Sem.run_bind, Sem.run_pure, Result.andThen_ok, run_underlying Try.underlying33, run_size_rent]
  rw [if_pos ⟨by omega, by omega⟩]
  simp only [Sem.run_bind, run_size_rent, Result.andThen_ok, Int.toNat_natCast]
  unfold part
  simp only [Sem.run_bind, run_agg_rent, Result.andThen_ok, if_true, run_size_rent, Sem.run_pure]
  rw [csE_extract h]
theorem size_rblk : (Try.prog.info? 33).map (·.size) = some 8 := by kernel_rfl
theorem row_rblk : ∃ d, Try.prog.underlying 33 = some d ∧ d.isRow = true := by
  cases h : Try.prog.underlying 33 with
  | none => exact absurd h (by decide)
  | some d =>
    refine ⟨d, rfl, ?_⟩
    have : (Try.prog.underlying 33).map (·.isRow) = some true := by kernel_rfl
    rw [h] at this
    simpa using this
def fillE (E : List Ent) (j : Nat) : List Ent := E.take j ++ zeroE.drop j
theorem fillE_set {E : List Ent} (hE : E.length = 4) {j : Nat} {x : Ent} (h : E[j]? = some x) : ((csE (fillE E j)).setIfInBounds (j * 2) (.int .i64 x.1)).setIfInBounds (j * 2 + 1) (.string x.2) = csE (fillE E (j + 1)) := by
  have hj : j < 4 := by rw [← hE]; exact (List.getElem?_eq_some_iff.1 h).1
  have ez : zeroE.drop j = (0, ByteArray.empty) :: zeroE.drop (j + 1) := by
    match j, hj with
    | 0, _ => rfl
    | 1, _ => rfl
    | 2, _ => rfl
    | 3, _ => rfl
  have et : E.take (j + 1) = E.take j ++ [x] := by rw [List.take_add_one, h]; rfl
  have hl : (E.take j).length = j := by rw [List.length_take]; omega
  unfold fillE
  rw [ez, et, List.append_assoc]
  have := csE_set (E.take j) (zeroE.drop (j + 1)) (0, ByteArray.empty) x
  rw [hl] at this
  exact this
theorem fillE_cells {E : List Ent} (hE : E.length = 4) {j : Nat} (hj : j < 4) : (csE (fillE E j))[j * 2]? = some (.int .i64 0) ∧ (csE (fillE E j))[j * 2 + 1]? = some (.string ByteArray.empty) := by
  have hl : (E.take j).length = j := by rw [List.length_take]; omega
  have e : (fillE E j)[j]? = some (0, ByteArray.empty) := by
    unfold fillE
    rw [List.getElem?_append_right (by omega), hl, Nat.sub_self]
    match j, hj with
    | 0, _ => rfl
    | 1, _ => rfl
    | 2, _ => rfl
    | 3, _ => rfl
  exact csE_get e
theorem fillE_full {E : List Ent} (hE : E.length = 4) : fillE E 4 = E := by
  unfold fillE
  rw [List.take_of_length_le (by omega)]
  show E ++ [] = E
  rw [List.append_nil]
set_option maxHeartbeats 3200000 in
theorem own_is {E : List Ent} (hE : E.length = 4) (w : World) :
    Calls Try.prog 14 #[.agg (csE E)] w fun e w' => e = .returned (.agg (csE E)) ∧ Below w.heap.size w w' := by
  have hzb := zero_blk
  obtain ⟨d, hd1, hd2⟩ := row_rblk
  obtain ⟨d2, hd3, hd4⟩ := row_blk
  have hsi : (Try.prog.info? 33).map (·.size) = some (E.flatMap entV).length := by rw [entV_len, hE]; exact size_rblk
  have hsi2 : (Try.prog.info? 28).map (·.size) = some (E.flatMap entV).length := by rw [entV_len, hE]; exact size_blk
  have b1 := below_box w (.cells (csE E) 33)
  have n1 := heap_alloc_new w (.cells (csE E) 33)
  obtain ⟨w1, hw1⟩ : ∃ w1, w.alloc (.cells (csE E) 33) = w1 := ⟨_, rfl⟩
  have hs1 : w1.heap.size = w.heap.size + 1 := by rw [← hw1]; simp
  rw [hw1] at b1 n1
  have b2 := below_box w1 (.cells (csE zeroE) 28)
  have n2 := heap_alloc_new w1 (.cells (csE zeroE) 28)
  have n1' := (b2.block w.heap.size (by omega)).trans n1
  have hb2 := below_next b1 b2
  obtain ⟨w2, hw2⟩ : ∃ w2, w1.alloc (.cells (csE zeroE) 28) = w2 := ⟨_, rfl⟩
  have hs2 : w2.heap.size = w.heap.size + 2 := by rw [← hw2]; simp [hs1]
  rw [hs1] at n2
  rw [hw2] at n2 n1' hb2 b2
  have b3 := below_box w2 (.cells (csE zeroE) 28)
  have n3 := heap_alloc_new w2 (.cells (csE zeroE) 28)
  have n13 := (b3.block w.heap.size (by omega)).trans n1'
  have n23 := (b3.block (w.heap.size + 1) (by omega)).trans n2
  have hb3 := below_next hb2 b3
  obtain ⟨w3, hw3⟩ : ∃ w3, w2.alloc (.cells (csE zeroE) 28) = w3 := ⟨_, rfl⟩
  have hs3 : w3.heap.size = w.heap.size + 3 := by rw [← hw3]; simp [hs2]
  rw [hs2] at n3
  rw [hw3] at n3 n13 n23 hb3
  have HB3 := Lib.hid hb3
  have HR1 : Hid (w3.rangeAt w.heap.size 0 (E.flatMap entV)) := Lib.hid (row_range n13)
  have HN2 := Lib.hid n23
  have HN3 := Lib.hid n3
  have HE := Lib.hid hE
  have HD1 := Lib.hid hd1
  have HD3 := Lib.hid hd3
  have HSI := Lib.hid hsi
  have HSI2 := Lib.hid hsi2
  have HS3 : Hid (w3.heap.size = w.heap.size + 3) := Lib.hid hs3
  clear b1 n1 b2 n2 n1' hb2 b3 n3 n13 n23 hb3 hE hd1 hd3 hsi hsi2
  go_enter Try.func14, Try.ntmps14
  go_wp2_with (refine wpList_load_mid rfl 33 _ rfl w.heap.size 0 rfl (E.flatMap entV) d HR1.out HD1.out hd2 HSI.out ?_)
  clear hw1 hw2 hw3 hs1 hs2 hs3
  go_loopw [4, 7] (fun _ i wr => ∃ j : Nat, j ≤ 4 ∧ i = .int .i64 j ∧ Hid (wr.heap[w.heap.size + 2]? = some (.cells (csE (fillE E j)) 28 (0, 0))) ∧ Hid (Below (w.heap.size + 2) w3 wr)) (fun _ i _ => 4 - (intOf i).toNat)
  case atStart => exact ⟨0, by decide, rfl, HN3, Lib.hid (Below.refl _ _)⟩
  case round =>
    obtain ⟨j, hj, rfl, HN, HBL⟩ := hrel
    have hwrs : w.heap.size + 3 ≤ wr.heap.size := by have := HBL.out.size; have := HS3.out; omega
    by_cases hlt : j < 4
    · have hjI : (0 : Int) ≤ (j : Int) ∧ (j : Int) < 4 := by omega
      obtain ⟨⟨z, s⟩, ex⟩ : ∃ x, E[j]? = some x := ⟨_, List.getElem?_eq_getElem (by rw [HE.out]; exact hlt)⟩
      have hidx := run_index_rblk HE.out ex
      unfold csE at hidx
      dsimp only at hidx
      have hb4 := below_box wr (.cells #[.int .i64 z, .string s] 32)
      have n4 := heap_alloc_new wr (.cells #[.int .i64 z, .string s] 32)
      have n34 := (hb4.block (w.heap.size + 2) (by omega)).trans HN.out
      obtain ⟨w4, hw4⟩ : ∃ x, wr.alloc (.cells #[.int .i64 z, .string s] 32) = x := ⟨_, rfl⟩
      rw [hw4] at hb4 n4 n34
      have d0 : w4.cell? ⟨wr.heap.size, 0, none⟩ = some (.int .i64 z) := (cell_of_row n4 0).trans rfl
      have d1 : w4.cell? ⟨wr.heap.size, 1, none⟩ = some (.string s) := (cell_of_row n4 1).trans rfl
      obtain ⟨q1, q2⟩ := fillE_cells HE.out hlt
      have c0 : w4.cell? ⟨w.heap.size + 2, j * 2, none⟩ = some (.int .i64 0) := (cell_of_row n34 _).trans q1
      have f0 : w4.frozen? ⟨w.heap.size + 2, j * 2, none⟩ = false := frozen_of_row _ _ _ _ _ n34
      have n5 := row_stored (i := j * 2) (u := .int .i64 z) n34
      have c1 : (w4.setCell ⟨w.heap.size + 2, j * 2, none⟩ (.int .i64 z)).cell? ⟨w.heap.size + 2, j * 2 + 1, none⟩ = some (.string ByteArray.empty) := by
        rw [cell_of_row n5, Array.getElem?_setIfInBounds_ne (by omega)]
        exact q2
      have f1 : (w4.setCell ⟨w.heap.size + 2, j * 2, none⟩ (.int .i64 z)).frozen? ⟨w.heap.size + 2, j * 2 + 1, none⟩ = false := frozen_of_row _ _ _ _ _ n5
      have n6 := row_stored (i := j * 2 + 1) (u := .string s) n5
      rw [fillE_set HE.out ex] at n6
      have HN6 := Lib.hid n6
      have HB6 : Hid (Below (w.heap.size + 2) w3 ((w4.setCell ⟨w.heap.size + 2, j * 2, none⟩ (.int .i64 z)).setCell ⟨w.heap.size + 2, j * 2 + 1, none⟩ (.string s))) := Lib.hid (((HBL.out.trans (hb4.mono (by omega))).setCell (Nat.le_refl _) _).setCell (Nat.le_refl _) _)
      clear ex hb4 n4 n34 q1 q2 n5 n6
      go_wp2
      go_roundw
      case rel => exact ⟨j + 1, by omega, by go_num, HN6, HB6⟩
      case measure => simp [intOf]; omega
    · obtain rfl : j = 4 := by omega
      have hn := HN.out
      rw [fillE_full HE.out] at hn
      have HRR : Hid (wr.rangeAt (w.heap.size + 2) 0 (E.flatMap entV)) := Lib.hid (row_range hn)
      have n2r := (HBL.out.block (w.heap.size + 1) (by omega)).trans HN2.out
      have HN2R := Lib.hid n2r
      have HBW : Hid (Below w.heap.size w wr) := Lib.hid (HB3.out.trans (HBL.out.mono (by omega)))
      have HD9 := Lib.hid (setRow_heap wr (w.heap.size + 1) _ (csE E) _ _ n2r)
      have HB9 := Lib.hid (below_setRow (g := w.heap.size + 1) HBW.out (by omega) (csE E))
      have HSX : Hid ((Try.prog.info? 28).map (·.size) = some (csE E).size) := Lib.hid (by rw [csE_size, HE.out]; exact size_blk)
      have HOX : Hid ((csE zeroE).size = (csE E).size) := Lib.hid (by rw [csE_size, csE_size, HE.out]; rfl)
      have HNX := Lib.hid (csE_one E)
      clear hn n2r HN
      go_wp2_with (first
        | refine wpList_load_mid rfl 28 _ rfl (w.heap.size + 2) 0 rfl (E.flatMap entV) d2 HRR.out HD3.out hd4 HSI2.out ?_
        | refine wpList_store_row rfl 28 _ _ rfl (w.heap.size + 1) (csE E) rfl rfl _ _ HN2R.out HSX.out HOX.out HNX.out ?_)
      refine bodyPost_ret (results_cell_row rfl _ _ (w.heap.size + 1) _ _ _ d2 rfl HD9.out HD3.out (by cases d2 <;> first | rfl | exact hd4) HSX.out) rfl ?_
      exact ⟨rfl, HB9.out⟩
end Go.Proofs.Ytpnafikmbbnecaa
