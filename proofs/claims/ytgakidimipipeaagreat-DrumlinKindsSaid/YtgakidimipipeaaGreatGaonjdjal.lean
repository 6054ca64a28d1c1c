/- The law's Summary: the document's as the program's. -/
import Derived.Test.YtgakidimipipeaaGreatGfdcplcif
namespace Go.Proofs.YtgakidimipipeaaGreat
open Go.RowKit Go.Sort
set_option linter.unusedVariables false
set_option linter.unusedSimpArgs false
set_option maxRecDepth 100000

theorem below_set {B g i : Nat} {w w1 : World} (h : Below B w w1) (hg : B ≤ g) (v : Value) : Below B w (w1.setCell ⟨g, i, none⟩ v) :=
  ⟨h.os, h.tape, h.output, by simpa using h.size, fun k hk => (Below.heap_setCell _ _ _ _ (by show k ≠ g; omega)).trans (h.block k hk)⟩

set_option maxHeartbeats 1600000 in
theorem ownSum_is {w : World} {D : SumD} {a : Option Addr} {cap : Nat} (h : OkD D) (hl : D.list.length ≤ 1000) (hra : ReadsR w a 4 (D.list.map rowV)) :
    Calls Tryz.prog 10 #[.agg (sumX D (.slice a D.list.length cap))] w fun e w' => Below w.heap.size w w' ∧ ∃ v, e = .returned (.agg (sumX D v)) ∧ OwnsR' w.heap.size w' 92 4 v (D.list.map rowV) := by
  have hz := zero_sum
  obtain ⟨d, hd1, hd2⟩ := row_sum
  have hLL := h.2.2.2.2
  obtain ⟨L, hL⟩ : ∃ L, D.list = L := ⟨_, rfl⟩
  have hxa : ∀ v, sumX D v = #[.int .u64 D.seq, .int .u64 D.first, .bool D.commit, .int .i64 D.next, .int .u32 D.time, v] := fun v => rfl
  simp only [hxa]
  rw [hL] at hLL hl hra ⊢
  obtain ⟨n, hn⟩ : ∃ n, L.length = n := ⟨_, rfl⟩
  rw [hn] at hl ⊢
  have HN := Lib.hid hn
  have HL := Lib.hid hLL
  clear hxa hL hn hLL h
  generalize D.seq = y0
  generalize D.first = y1
  generalize D.commit = y2
  generalize D.next = y3
  generalize D.time = y4
  have b1 := below_box w (.cells #[.int .u64 y0, .int .u64 y1, .bool y2, .int .i64 y3, .int .u32 y4, .slice a n cap] 29)
  have n1 := heap_alloc_new w (.cells #[.int .u64 y0, .int .u64 y1, .bool y2, .int .i64 y3, .int .u32 y4, .slice a n cap] 29)
  obtain ⟨w1, hw1⟩ : ∃ x, w.alloc (.cells #[.int .u64 y0, .int .u64 y1, .bool y2, .int .i64 y3, .int .u32 y4, .slice a n cap] 29) = x := ⟨_, rfl⟩
  have hs1 : w1.heap.size = w.heap.size + 1 := by rw [← hw1]; simp
  rw [hw1] at b1 n1
  have b2 := below_box w1 (.cells #[.int .u64 0, .int .u64 0, .bool false, .int .i64 0, .int .u32 0, .slice none 0 0] 43)
  have n2 := heap_alloc_new w1 (.cells #[.int .u64 0, .int .u64 0, .bool false, .int .i64 0, .int .u32 0, .slice none 0 0] 43)
  obtain ⟨w2, hw2⟩ : ∃ x, w1.alloc (.cells #[.int .u64 0, .int .u64 0, .bool false, .int .i64 0, .int .u32 0, .slice none 0 0] 43) = x := ⟨_, rfl⟩
  have hs2 : w2.heap.size = w.heap.size + 2 := by rw [← hw2]; simp [hs1]
  rw [hw2] at b2 n2
  rw [hs1] at n2
  have n12 := (b2.block w.heap.size (by omega)).trans n1
  have b3 := below_box w2 (.cells #[.int .u64 y0, .int .u64 y1, .bool y2, .int .i64 y3, .int .u32 y4, .slice none 0 0] 43)
  have n3 := heap_alloc_new w2 (.cells #[.int .u64 y0, .int .u64 y1, .bool y2, .int .i64 y3, .int .u32 y4, .slice none 0 0] 43)
  have nz := heap_alloc_new w2 (.cells #[.int .u64 0, .int .u64 0, .bool false, .int .i64 0, .int .u32 0, .slice none 0 0] 43)
  have e3 := World.setRow_alloc_new w2 #[.int .u64 0, .int .u64 0, .bool false, .int .i64 0, .int .u32 0, .slice none 0 0] #[.int .u64 y0, .int .u64 y1, .bool y2, .int .i64 y3, .int .u32 y4, .slice none 0 0] 43
  obtain ⟨w3, hw3⟩ : ∃ x, w2.alloc (.cells #[.int .u64 y0, .int .u64 y1, .bool y2, .int .i64 y3, .int .u32 y4, .slice none 0 0] 43) = x := ⟨_, rfl⟩
  have hs3 : w3.heap.size = w.heap.size + 3 := by rw [← hw3]; simp [hs2]
  rw [hw3] at b3 n3 e3
  rw [hs2] at n3 nz e3
  have k3 : w3.cell? ⟨w.heap.size + 2, 5, none⟩ = some (.slice none 0 0) := cell_of_row n3 5
  have f3 := frozen_of_row w3 (w.heap.size + 2) 5 _ _ n3
  have n4 : (w3.setCell ⟨w.heap.size + 2, 5, none⟩ (.slice none 0 0)).heap[w.heap.size + 2]? = some (.cells #[.int .u64 y0, .int .u64 y1, .bool y2, .int .i64 y3, .int .u32 y4, .slice none 0 0] 43 (0, 0)) := heap_setCell_same w3 (w.heap.size + 2) 5 _ _ _ n3
  have n13 := (b3.block w.heap.size (by omega)).trans n12
  have n23 := (b3.block (w.heap.size + 1) (by omega)).trans n2
  have hb4 := below_set (g := w.heap.size + 2) (i := 5) (below_next (below_next b1 b2) b3) (by omega) (.slice none 0 0)
  have n14 : (w3.setCell ⟨w.heap.size + 2, 5, none⟩ (.slice none 0 0)).heap[w.heap.size]? = _ := (Below.heap_setCell _ _ _ _ (by show w.heap.size ≠ w.heap.size + 2; omega)).trans n13
  have n24 : (w3.setCell ⟨w.heap.size + 2, 5, none⟩ (.slice none 0 0)).heap[w.heap.size + 1]? = _ := (Below.heap_setCell _ _ _ _ (by show w.heap.size + 1 ≠ w.heap.size + 2; omega)).trans n23
  obtain ⟨w4, hw4⟩ : ∃ x, w3.setCell ⟨w.heap.size + 2, 5, none⟩ (.slice none 0 0) = x := ⟨_, rfl⟩
  have hs4 : w4.heap.size = w.heap.size + 3 := by rw [← hw4]; simpa using hs3
  rw [hw4] at n4 hb4 n14 n24
  have HRA := Lib.hid hra
  have HB := Lib.hid hb4
  have N2 := Lib.hid n24
  have N4 := Lib.hid n4
  have c0 : w2.cell? ⟨w.heap.size, 0, none⟩ = some (.int .u64 y0) := cell_of_row n12 0
  have c1 : w2.cell? ⟨w.heap.size, 1, none⟩ = some (.int .u64 y1) := cell_of_row n12 1
  have c2 : w2.cell? ⟨w.heap.size, 2, none⟩ = some (.bool y2) := cell_of_row n12 2
  have c3 : w2.cell? ⟨w.heap.size, 3, none⟩ = some (.int .i64 y3) := cell_of_row n12 3
  have c4 : w2.cell? ⟨w.heap.size, 4, none⟩ = some (.int .u32 y4) := cell_of_row n12 4
  have c5 : w4.cell? ⟨w.heap.size, 5, none⟩ = some (.slice a n cap) := cell_of_row n14 5
  clear b1 n1 b2 n2 n12 b3 n3 n13 n23 hra n4 hb4 n14 n24
  go_enter Tryz.func10, Tryz.ntmps10
  go_wp2_with fail
  clear c0 c1 c2 c3 c4 c5 k3 f3 nz e3 hw1 hw2 hw3 hw4
  go_loopw [20] (fun i wr => ∃ k : Nat, k ≤ n ∧ i = .int .i64 k ∧ ∃ v, Hid (wr.heap[w.heap.size + 2]? = some (.cells #[.int .u64 y0, .int .u64 y1, .bool y2, .int .i64 y3, .int .u32 y4, v] 43 (0, 0))) ∧ Hid (OwnsR' (w.heap.size + 3) wr 92 4 v ((L.take k).map rowV)) ∧ Hid (Below (w.heap.size + 2) w4 wr)) (fun i _ => n - (intOf i).toNat)
  case atStart => exact ⟨0, Nat.zero_le _, rfl, _, N4, Lib.hid (OwnsR'.nil _ _ _ _), Lib.hid (Below.refl _ _)⟩
  case round =>
    obtain ⟨k, hk, rfl, v, HRW, HO, HBL⟩ := hrel
    have hsr : w.heap.size + 3 ≤ wr.heap.size := by have := HBL.out.size; omega
    by_cases hlt : k < n
    · obtain ⟨x, hx⟩ : ∃ x, L[k]? = some x := ⟨_, List.getElem?_eq_getElem (by rw [HN.out]; exact hlt)⟩
      obtain ⟨z0, z1, z2, z3, rfl, _⟩ := HL.out x (List.mem_of_getElem? hx)
      have HTK : Hid ((L.take (k + 1)).map rowV = (L.take k).map rowV ++ [rowV (fldEntry z0 z1 z2 z3)]) := by
        show _ = _
        rw [List.take_add_one, hx, List.map_append]
        rfl
      have HLL : Hid (((L.take k).map rowV).length ≤ 1000) := by show _ ≤ _; rw [List.length_map, List.length_take]; omega
      obtain ⟨g, off, rfl, hb, hc⟩ := (HRA.out.below (HB.out.trans (HBL.out.mono (by omega)))).row (show (L.map rowV)[k]? = some (rowV (fldEntry z0 z1 z2 z3)) by rw [List.getElem?_map, hx]; rfl)
      have hcell : ∀ (i : Nat) (u : Value), (rowV (fldEntry z0 z1 z2 z3))[i]? = some u → wr.cell? ⟨g, off + k * 4 + i, none⟩ = some u := fun i u hi => by
        have h1 := hc i u hi
        rwa [← Nat.add_assoc] at h1
      have c_0 : wr.cell? ⟨g, off + k * 4, none⟩ = some (.int .i64 z0) := hcell 0 _ rfl
      have c_1 : wr.cell? ⟨g, off + k * 4 + 1, none⟩ = some (.int .u32 z1) := hcell 1 _ rfl
      have c_2 : wr.cell? ⟨g, off + k * 4 + 2, none⟩ = some (.int .u32 z2) := hcell 2 _ rfl
      have c_3 : wr.cell? ⟨g, off + k * 4 + 3, none⟩ = some (.int .i64 z3) := hcell 3 _ rfl
      obtain ⟨av, cv, rfl, _⟩ := owned_list HO.out
      have c5 : (wr.alloc (.cells #[.int .i64 z0, .int .u32 z1, .int .u32 z2, .int .i64 z3] 91)).cell? ⟨w.heap.size + 2, 5, none⟩ = some (.slice av (L.take k).length cv) := ((below_box wr _).cell (p := ⟨w.heap.size + 2, 5, none⟩) (by show w.heap.size + 2 < _; omega)).trans (cell_of_row HRW.out 5)
      obtain ⟨tk, htk⟩ : ∃ m, (L.take k).length = m := ⟨_, rfl⟩
      rw [htk] at HO HRW c5
      have hx0 : (0 : Int) ≤ (k : Int) := by omega
      have hx1 : (k : Int) < (n : Int) := by omega
      have hsz1 : (wr.alloc (.cells #[.int .i64 z0, .int .u32 z1, .int .u32 z2, .int .i64 z3] 91)).heap.size = wr.heap.size + 1 := by simp
      have HO2 := Lib.hid ((HO.out.alloc (.cells #[.int .i64 z0, .int .u32 z1, .int .u32 z2, .int .i64 z3] 91)).alloc (.cells #[.int .i64 z0, .int .u32 z1, .int .u32 z2, .int .i64 z3] 92))
      have HB2 : Hid (Below (w.heap.size + 2) w4 ((wr.alloc (.cells #[.int .i64 z0, .int .u32 z1, .int .u32 z2, .int .i64 z3] 91)).alloc (.cells #[.int .i64 z0, .int .u32 z1, .int .u32 z2, .int .i64 z3] 92))) := Lib.hid ((HBL.out.alloc (by omega) _).alloc (by simp; omega) _)
      have HRW2 : Hid (((wr.alloc (.cells #[.int .i64 z0, .int .u32 z1, .int .u32 z2, .int .i64 z3] 91)).alloc (.cells #[.int .i64 z0, .int .u32 z1, .int .u32 z2, .int .i64 z3] 92)).heap[w.heap.size + 2]? = some (.cells #[.int .u64 y0, .int .u64 y1, .bool y2, .int .i64 y3, .int .u32 y4, .slice av tk cv] 43 (0, 0))) := Lib.hid (((below_box (wr.alloc _) _).block (w.heap.size + 2) (by simp; omega)).trans (((below_box wr _).block (w.heap.size + 2) (by omega)).trans HRW.out))
      have hrow : ∀ j u, (rowV (fldEntry z0 z1 z2 z3))[j]? = some u → ((wr.alloc (.cells #[.int .i64 z0, .int .u32 z1, .int .u32 z2, .int .i64 z3] 91)).alloc (.cells #[.int .i64 z0, .int .u32 z1, .int .u32 z2, .int .i64 z3] 92)).cell? ⟨wr.heap.size + 1, j, none⟩ = some u := fun j u hu => by
        rw [← hsz1]
        exact (cell_of_row (heap_alloc_new (wr.alloc (.cells #[.int .i64 z0, .int .u32 z1, .int .u32 z2, .int .i64 z3] 91)) (.cells #[.int .i64 z0, .int .u32 z1, .int .u32 z2, .int .i64 z3] 92)) j).trans ((List.getElem?_toArray (xs := rowV (fldEntry z0 z1 z2 z3))).trans hu)
      have HROW := Lib.hid hrow
      have HSR := Lib.hid hsr
      clear hc hcell hx hb hrow hsz1 htk hsr
      go_wp2_with (at_builtin; refine wpList_append_row_at rfl _ _ _ rfl (w.heap.size + 3) 92 _ 4 24 Tryz.underlying41 infoEntry rfl (by decide) _ _ rfl HO2.out (wr.heap.size + 1) 1 (rowV (fldEntry z0 z1 z2 z3)) (by go_simp) rfl HROW.out (fun u hu => by simp only [fldEntry, rowV, List.map_cons, List.map_nil, List.mem_cons, List.not_mem_nil, or_false] at hu; rcases hu with rfl | rfl | rfl | rfl <;> rfl) (by have := HLL.out; omega) (by have := HLL.out; unfold maxLen; omega) (by have := HSR.out; simp; omega) ?_; intro v6 w6 o6 g6 _; rw [← HTK.out] at o6; obtain ⟨a6, q6, rfl, _⟩ := owned_list o6; generalize (L.take (k + 1)).length = n6 at o6 ⊢; have R6 := (g6.block (w.heap.size + 2) (by have := HSR.out; simp; omega) (fun e => by have := (HO2.out.lt _ e.symm).1; omega)).trans HRW2.out; have B6 := Lib.hid (HB2.out.grown g6 (by have := HSR.out; simp; omega) (fun j hj => by have := (HO2.out.lt j hj).1; omega)); have O6 := Lib.hid o6; have c6 := cell_of_row R6 5; have f6 := frozen_of_row w6 (w.heap.size + 2) 5 _ _ R6; have HR6 := Lib.hid R6; clear R6 o6 g6 c5)
      go_roundw
      case rel =>
        refine ⟨k + 1, by omega, by go_num, _, Lib.hid (heap_setCell_same w6 (w.heap.size + 2) 5 _ _ _ HR6.out), ?_, Lib.hid (below_set B6.out (Nat.le_refl _) _)⟩
        show OwnsR' _ _ _ _ _ _
        exact owns_same O6.out fun j hj => Below.heap_setCell _ _ _ _ (by have := (O6.out.lt j hj).1; show j ≠ w.heap.size + 2; omega)
      case measure => simp [intOf]; omega
    · obtain rfl : k = n := by omega
      have htl : L.take k = L := List.take_of_length_le (by rw [HN.out]; exact Nat.le_refl _)
      rw [htl] at HO
      obtain ⟨av, cv, rfl, _⟩ := owned_list HO.out
      have n2 := (HBL.out.block (w.heap.size + 1) (by omega)).trans N2.out
      have hrg := row_range HRW.out
      obtain ⟨X, hX⟩ : ∃ X : Array Value, #[.int .u64 y0, .int .u64 y1, .bool y2, .int .i64 y3, .int .u32 y4, .slice av L.length cv] = X := ⟨_, rfl⟩
      have hXs : X.size = 6 := by rw [← hX]; rfl
      have hone : X.all (·.oneCell') = true := by rw [← hX]; simp [Value.oneCell']
      have hsi : (Tryz.prog.info? 43).map (·.size) = some X.size := by rw [hXs]; exact size_sum
      have hsi2 : (Tryz.prog.info? 43).map (·.size) = some X.toList.length := by rw [Array.length_toList, hXs]; exact size_sum
      have hold : (#[.int .u64 0, .int .u64 0, .bool false, .int .i64 0, .int .u32 0, .slice none 0 0] : Array Value).size = X.size := by rw [hXs]; rfl
      have HXX := Lib.hid hX
      rw [hX] at hrg
      have HFB := Lib.hid (below_setRow (g := w.heap.size + 1) (HB.out.trans (HBL.out.mono (by omega))) (by omega) X)
      have hfin := setRow_heap wr (w.heap.size + 1) _ X _ _ n2
      have HO2 : Hid (OwnsR' w.heap.size (wr.setRow (w.heap.size + 1) X) 92 4 (.slice av L.length cv) (L.map rowV)) :=
        Lib.hid ((owns_same HO.out fun j hj => setRow_other _ _ _ _ (by have := (HO.out.lt j hj).1; omega)).less (by omega))
      clear hX HRW HO
      go_wp2_with (first
        | refine wpList_load_mid rfl 43 _ rfl (w.heap.size + 2) 0 (by go_simp) X.toList d hrg hd1 hd2 hsi2 ?_
        | refine wpList_store_row rfl 43 _ _ rfl (w.heap.size + 1) X (by go_simp) (by go_simp) _ _ n2 hsi hold hone ?_)
      refine bodyPost_ret (results_cell_row rfl _ _ (w.heap.size + 1) _ _ _ d rfl hfin hd1 (by cases d <;> first | rfl | exact hd2) hsi) rfl ?_
      exact ⟨HFB.out, _, by rw [← HXX.out], HO2.out⟩
end Go.Proofs.YtgakidimipipeaaGreat
