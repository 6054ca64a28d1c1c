/- Pointers, read as the document says. -/
import Derived.Test.YtedhfgadphjobaaPtr4
namespace Go.Proofs.Ytedhfgadphjobaa
open Go.RowKit Go.Sort
set_option linter.unusedVariables false
set_option linter.unusedSimpArgs false
set_option maxRecDepth 100000

def partP (s : List Nat) (k : Nat) : List FldD := (rdP s).take k ++ zeroP.drop k
theorem rdP_length (s : List Nat) : (rdP s).length = 32 := by unfold rdP; rw [stO_length]; rfl
theorem partP_length (s : List Nat) {k : Nat} (h : k ≤ 32) : (partP s k).length = 32 := by
  unfold partP
  rw [List.length_append, List.length_take, List.length_drop, rdP_length, show zeroP.length = 32 from rfl]
  omega
theorem partP_set {s : List Nat} {k : Nat} {z : Int} (hk : k < 32) (h : (rdP s)[k]? = some ⟨.i64, 4, z⟩) : (cellsF (partP s k)).setIfInBounds k (.int .i64 z) = cellsF (partP s (k + 1)) := by
  unfold cellsF
  rw [List.setIfInBounds_toArray]
  congr 1
  have e : (Value.int .i64 z) = (fun x : FldD => Value.int x.kind x.z) ⟨.i64, 4, z⟩ := rfl
  rw [e, ← List.map_set]
  congr 1
  unfold partP
  have ht : ((rdP s).take k).length = k := by rw [List.length_take, rdP_length]; omega
  rw [List.set_append_right _ _ (by omega), ht, Nat.sub_self, List.take_add_one, h]
  have hz : k < zeroP.length := hk
  rw [List.drop_eq_getElem_cons hz, List.set_cons_zero]
  simp
theorem slice_four (g : Nat) {k : Nat} (hk : k < 32) (w : World) : (Instr.sliceAt 45 (.pointer (some ⟨g, 0, none⟩)) (some (.int .i64 (4 * (k : Int)))) (some (.int .i64 (4 * (k : Int) + 4))) none).run Try.prog w = .ok (.slice (some ⟨g, 4 * k, none⟩) 4 (128 - 4 * k)) w := by
  have ht : Try.prog.underlying 45 = some (.array (Try.prog.arrayLen 45) (Try.prog.elem 45)) := by kernel_rfl
  have ha : Try.prog.arrayLen 45 = 128 := by kernel_rfl
  have he : Try.prog.elem 45 = 5 := by kernel_rfl
  have e1 : (4 * (k : Int)).toNat = 4 * k := by omega
  have e2 : (4 * (k : Int) + 4).toNat = 4 * k + 4 := by omega
  rw [run_sliceAt_array_lh w _ _ ht .i64 .i64 _ _ (by omega) (by omega) (by rw [ha]; omega), ha, he, run_size_u8]
  simp only [Result.andThen_ok, slicedAt, e1, e2]
  rw [if_neg (by omega), show 4 * k + 4 - 4 * k = 4 by omega]
  simp [Addr.add]
  try omega

set_option maxHeartbeats 1600000 in
theorem rreadPtr_is (s : List Nat) (hs : s.length = 128) (hbs : Bytes s) (w : World) :
    Calls Try.prog 54 #[.agg (cells s)] w fun e w' => e = .returned (.tuple #[.agg (cellsF (readP s).1), .bool (decide (inP (rdP s)))]) ∧ Below w.heap.size w w' := by
  have hz := zero_full
  have hzi := zero_ptr
  have hbld := build_ptr
  obtain ⟨d, hd1, hd2⟩ := row_ptr
  have hsz : ∀ l : List FldD, l.length = 32 → (Try.prog.info? 100).map (·.size) = some (rowV l).length := fun l hl => by unfold rowV; rw [List.length_map, hl]; exact size_ptr
  have hsz2 : ∀ l : List FldD, l.length = 32 → (Try.prog.info? 100).map (·.size) = some (cellsF l).size := fun l hl => by rw [cellsF_size, hl]; exact size_ptr
  have b1 := below_box w (.cells (cells s) 45)
  have n1 := heap_alloc_new w (.cells (cells s) 45)
  obtain ⟨w1, hw1⟩ : ∃ w1, w.alloc (.cells (cells s) 45) = w1 := ⟨_, rfl⟩
  have hs1 : w1.heap.size = w.heap.size + 1 := by rw [← hw1]; simp
  rw [hw1] at b1 n1
  have b2 := below_box w1 (.cells (cellsF zeroP) 100)
  have n2 := heap_alloc_new w1 (.cells (cellsF zeroP) 100)
  have n1' := (b2.block w.heap.size (by omega)).trans n1
  have hB2 := below_next b1 b2
  rw [hs1] at n2
  obtain ⟨w2, hw2⟩ : ∃ w2, w1.alloc (.cells (cellsF zeroP) 100) = w2 := ⟨_, rfl⟩
  rw [hw2] at n2 n1' hB2
  have hs2 : w2.heap.size = w.heap.size + 2 := by rw [← hw2]; simp [hs1]
  have b3 := below_box w2 (.cells (cellsF zeroP) 100)
  have n3 := heap_alloc_new w2 (.cells (cellsF zeroP) 100)
  have n1'' := (b3.block w.heap.size (by omega)).trans n1'
  have n2'' := (b3.block (w.heap.size + 1) (by omega)).trans n2
  have HB := Lib.hid (below_next hB2 b3)
  rw [hs2] at n3
  obtain ⟨w3, hw3⟩ : ∃ w3, w2.alloc (.cells (cellsF zeroP) 100) = w3 := ⟨_, rfl⟩
  rw [hw3] at n3 n1'' n2'' HB
  have hs3 : w3.heap.size = w.heap.size + 3 := by rw [← hw3]; simp [hs2]
  clear b1 n1 b2 b3 n1' n2 hB2
  go_enter Try.func54, Try.ntmps54
  go_wp2_with fail
  go_loopw [5] (fun i wr => ∃ k : Nat, k ≤ 32 ∧ i = .int .i64 k ∧ Hid (wr.heap[w.heap.size + 2]? = some (.cells (cellsF (partP s k)) 100 (0, 0))) ∧ Hid (Below (w.heap.size + 2) w3 wr) ∧ ∀ j, j < k → okP (fieldZ (rdP s) j)) (fun i _ => 32 - (intOf i).toNat)
  case atStart => exact ⟨0, by decide, rfl, n3, Below.refl _ _, fun j hj => by omega⟩
  case round =>
    obtain ⟨k, hk, rfl, hrow, hb, hok⟩ := hrel
    have n1r := (hb.out.block w.heap.size (by omega)).trans n1''
    have n2r := (hb.out.block (w.heap.size + 1) (by omega)).trans n2''
    have hsr : w.heap.size + 3 ≤ wr.heap.size := by have := hb.out.size; omega
    have HBr : Hid (Below w.heap.size w wr) := HB.out.trans (hb.out.mono (by omega))
    clear hw1 hw2 hw3
    by_cases hlt : k < 32
    · have hkI : (0 : Int) ≤ (k : Int) ∧ (k : Int) < 32 := by omega
      have hat := rdP_at hs hlt
      have hr : Reads wr (some ⟨w.heap.size, 0, none⟩) 128 s := ⟨hs, hbs, .inr ⟨w.heap.size, 0, rfl, by omega, fun i hi => block_cells hs n1r i hi⟩⟩
      have hrp := hr.part (4 * k) 4 (by omega)
      have hle : le ((s.drop (4 * k)).take 4) < 4294967296 := by
        have := le_lt _ ((hbs.drop (4 * k)).take 4)
        have h2 : ((s.drop (4 * k)).take 4).length = 4 := by simp; omega
        rw [h2] at this
        exact this
      have hsl := slice_four w.heap.size hlt wr
      rw [Nat.zero_add] at hrp
      have HN := Lib.hid (num_any (some ⟨w.heap.size, 4 * k, none⟩) 4 (128 - 4 * k) _ wr hrp (by decide))
      obtain ⟨n, hn⟩ : ∃ n, le ((s.drop (4 * k)).take 4) = n := ⟨_, rfl⟩
      rw [hn] at HN hat hle
      have hfz : fieldZ (rdP s) k = (n : Int) := by unfold fieldZ; rw [hat]; rfl
      have HST := Lib.hid (partP_set hlt hat)
      have HOK := Lib.hid hok
      have HFZ := Lib.hid hfz
      clear hok hfz hat hr hrp hn n1r
      by_cases hin : n ≤ 65535
      · have hnI : ¬ (n : Int) > 65535 := by omega
        have hcs := heap_setCell_same _ _ k _ _ (.int .i64 (n : Int)) hrow.out
        have hfr : wr.frozen? ⟨w.heap.size + 2, k, none⟩ = false := frozen_of_row _ _ _ _ _ hrow.out
        obtain ⟨old, hcc⟩ : ∃ old : Value, wr.cell? ⟨w.heap.size + 2, k, none⟩ = some old := by
          have hl := partP_length s hk
          obtain ⟨y, hy⟩ : ∃ y, (partP s k)[k]? = some y := ⟨_, List.getElem?_eq_getElem (by omega)⟩
          refine ⟨.int y.kind y.z, ?_⟩
          rw [cell_of_row hrow.out k]
          unfold cellsF
          rw [List.getElem?_toArray, List.getElem?_map, hy]
          rfl
        rw [HST.out] at hcs
        have hb' := hb.out.setCell (p := ⟨w.heap.size + 2, k, none⟩) (Nat.le_refl _) (.int .i64 (n : Int))
        have HCS := Lib.hid hcs
        have HB' := Lib.hid hb'
        clear hcs hb' hrow hb hd1 hd2 hsz hsz2
        go_wp2_with fail
        refine HN.out.mono ?_
        rintro e w5 ⟨rfl, rfl⟩
        go_wp2
        go_roundw
        case rel =>
          refine ⟨k + 1, by omega, by go_num, HCS.out, HB'.out, fun j hj => ?_⟩
          by_cases hjk : j = k
          · subst hjk; rw [HFZ.out]; unfold okP; omega
          · exact HOK.out j (by omega)
        case measure => simp [intOf]; omega
      · have hnI : (n : Int) > 65535 := by omega
        have hno : ¬ inP (rdP s) := fun h => by have := h k hlt; rw [HFZ.out] at this; unfold okP at this; omega
        have hdn : decide (inP (rdP s)) = false := decide_eq_false hno
        have HF : Hid (readP s = (zeroP, 21)) := if_neg hno
        have HDN := Lib.hid hdn
        have hs82 := hsz2 zeroP rfl
        have hone8 := cellsF_one zeroP
        have hd9 := setRow_heap wr (w.heap.size + 1) _ (cellsF zeroP) _ _ n2r
        have hb9 := below_setRow (g := w.heap.size + 1) HBr.out (by omega) (cellsF zeroP)
        clear hdn hno hin
        go_wp2_with fail
        refine HN.out.mono ?_
        rintro e w5 ⟨rfl, rfl⟩
        go_wp2_with (refine wpList_store_row rfl 100 _ _ rfl (w.heap.size + 1) (cellsF zeroP) rfl rfl _ _ n2r hs82 rfl hone8 ?_)
        refine bodyPost_ret (results_ptr rfl _ _ (w.heap.size + 1) zeroP _ _ rfl hd9 rfl) rfl ?_
        exact ⟨by rw [HF.out, HDN.out]; rfl, hb9⟩
    · obtain rfl : k = 32 := by omega
      have hip : inP (rdP s) := fun m hm => hok m hm
      have hdn : decide (inP (rdP s)) = true := decide_eq_true hip
      have HF : Hid (readP s = (rdP s, 0)) := if_pos hip
      have HDN := Lib.hid hdn
      have hrw : partP s 32 = rdP s := by
        unfold partP
        rw [List.take_of_length_le (by rw [rdP_length]; exact Nat.le_refl _), List.drop_of_length_le (by decide), List.append_nil]
      have hrow' := hrow.out
      rw [hrw] at hrow'
      have hl32 := rdP_length s
      obtain ⟨x, hx⟩ : ∃ x, rdP s = x := ⟨_, rfl⟩
      rw [hx] at hrow' hl32 HF
      have hrx := rowV_range hrow'
      have hsx := hsz x hl32
      have hsx2 := hsz2 x hl32
      have honex := cellsF_one x
      have hold : (cellsF zeroP).size = (cellsF x).size := by rw [cellsF_size, cellsF_size, hl32]; rfl
      have hd9 := setRow_heap wr (w.heap.size + 1) _ (cellsF x) _ _ n2r
      have hb9 := below_setRow (g := w.heap.size + 1) HBr.out (by omega) (cellsF x)
      clear hok hip hdn hrow hb n1r hrw hrow' hx
      go_wp2_with (first
        | refine wpList_load_mid rfl 100 _ rfl (w.heap.size + 2) 0 rfl (rowV x) d hrx hd1 hd2 hsx ?_
        | refine wpList_store_row rfl 100 _ _ rfl (w.heap.size + 1) (cellsF x) rfl rfl _ _ n2r hsx2 hold honex ?_)
      refine bodyPost_ret (results_ptr rfl _ _ (w.heap.size + 1) x _ _ rfl hd9 hl32) rfl ?_
      exact ⟨by rw [HF.out, HDN.out]; rfl, hb9⟩
end Go.Proofs.Ytedhfgadphjobaa
