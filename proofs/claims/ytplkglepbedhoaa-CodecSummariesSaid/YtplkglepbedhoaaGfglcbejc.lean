/- codec's own WriteSummary and ReadSummary. -/
import Derived.Test.YtplkglepbedhoaaGlcalblah
namespace Go.Proofs.Ytplkglepbedhoaa
open Go.RowKit Go.Sort
set_option linter.unusedVariables false
set_option linter.unusedSimpArgs false
set_option maxRecDepth 100000

set_option maxHeartbeats 1600000 in
theorem writeSummary_is {w : World} {D : SumD} {a : Option Addr} {cap : Nat} (h : OkD D) (hr : ReadsR w a 4 (D.list.map rowV)) :
    Calls Try.prog 18 #[.agg (sumX D (.slice a D.list.length cap))] w fun e w' => e = .returned (.tuple #[.agg (cells (writeD D).1), .int .i64 (writeD D).2]) ∧ Below w.heap.size w w' := by
  have HWR := Lib.hid (fun (w : World) (hr : ReadsR w a 4 (D.list.map rowV)) => writeD_is (cap := cap) h hr)
  obtain ⟨X, hX⟩ : ∃ X, sumX D (.slice a D.list.length cap) = X := ⟨_, rfl⟩
  have hXs : X.size = 6 := by rw [← hX]; rfl
  rw [hX] at HWR ⊢
  have HR := Lib.hid hr
  clear hX hr
  have hz := zero_sector
  obtain ⟨d, hd1, hd2⟩ := row_sum
  have hsi : (Try.prog.info? 48).map (·.size) = some X.toList.length := by rw [Array.length_toList, hXs]; exact size_sum
  have b1 := below_box w (.cells (X) 48)
  have n1 := heap_alloc_new w (.cells (X) 48)
  obtain ⟨w1, hw1⟩ : ∃ w1, w.alloc (.cells (X) 48) = w1 := ⟨_, rfl⟩
  have hs1 : w1.heap.size = w.heap.size + 1 := by rw [← hw1]; simp
  rw [hw1] at b1 n1
  have b2 := below_box w1 (.cells (cells noughts) 42)
  have n2 := heap_alloc_new w1 (.cells (cells noughts) 42)
  have n1' := (b2.block w.heap.size (by omega)).trans n1
  have hr1 := row_range n1'
  have HB := Lib.hid (below_next b1 b2)
  rw [hs1] at n2
  obtain ⟨w2, hw2⟩ : ∃ w2, w1.alloc (.cells (cells noughts) 42) = w2 := ⟨_, rfl⟩
  rw [hw2] at n2 n1' hr1 HB
  have hs2 : w2.heap.size = w.heap.size + 2 := by rw [← hw2]; simp [hs1]
  clear b1 n1 b2
  go_enter Try.func18, Try.ntmps18
  go_wp2_with (refine wpList_load_mid rfl 48 _ rfl w.heap.size 0 rfl (X.toList) d hr1 hd1 hd2 hsi ?_)
  refine (HWR.out w2 (HR.out.below HB.out)).mono ?_
  rintro e w3 ⟨rfl, b3⟩
  have n3 := (b3.block (w.heap.size + 1) (by omega)).trans n2
  have hlen := writeD_length h
  obtain ⟨s, hse⟩ : ∃ s, (writeD D).1 = s := ⟨_, rfl⟩
  obtain ⟨er, here⟩ : ∃ er, (writeD D).2 = er := ⟨_, rfl⟩
  have HS := Lib.hid (And.intro hse here)
  rw [hse, here]
  rw [hse] at hlen
  have hd := setRow_heap w3 (w.heap.size + 1) _ (cells s) _ _ n3
  have hb := below_setRow (g := w.heap.size + 1) (HB.out.trans (b3.mono HB.out.size)) (by omega) (cells s)
  clear b3 n1' n2 hr1 HB hw1 hw2 hs1 hs2 hse here
  go_wp2_with (refine wpList_store_sector rfl _ _ rfl (w.heap.size + 1) s rfl rfl hlen _ _ n3 rfl ?_)
  refine bodyPost_ret (results_sector rfl _ _ (w.heap.size + 1) s _ _ rfl hd hlen) rfl ?_
  exact ⟨by rw [HS.out.1, HS.out.2]; rfl, hb⟩

set_option maxHeartbeats 1600000 in
theorem readSummary_is (s : List Nat) (hs : s.length = 128) (hbs : Bytes s) (w : World) :
    Calls Try.prog 21 #[.agg (cells s)] w (ReadSmPost w (readSm s)) := by
  have hz := zero_sector
  have hzi := zero_sum2
  obtain ⟨d, hd1, hd2⟩ := row_sum
  have b1 := below_box w (.cells (cells s) 42)
  have n1 := heap_alloc_new w (.cells (cells s) 42)
  obtain ⟨w1, hw1⟩ : ∃ w1, w.alloc (.cells (cells s) 42) = w1 := ⟨_, rfl⟩
  have hs1 : w1.heap.size = w.heap.size + 1 := by rw [← hw1]; simp
  rw [hw1] at b1 n1
  have b2 := below_box w1 (.cells (sumZ) 48)
  have n2 := heap_alloc_new w1 (.cells (sumZ) 48)
  have n1' := (b2.block w.heap.size (by omega)).trans n1
  have HB := Lib.hid (below_next b1 b2)
  rw [hs1] at n2
  obtain ⟨w2, hw2⟩ : ∃ w2, w1.alloc (.cells (sumZ) 48) = w2 := ⟨_, rfl⟩
  rw [hw2] at n2 n1' HB
  have hs2 : w2.heap.size = w.heap.size + 2 := by rw [← hw2]; simp [hs1]
  have HC := Lib.hid (block_cells hs n1')
  clear b1 n1 b2
  go_enter Try.func21, Try.ntmps21
  go_wp2_with (refine wpList_load_sector rfl _ rfl w.heap.size 0 s rfl hs HC.out ?_)
  refine (readSum_is s hs hbs w2).mono ?_
  rintro e w3 ⟨b3, v, rfl, ho⟩
  have n3 := (b3.block (w.heap.size + 1) (by omega)).trans n2
  obtain ⟨X, hX⟩ : ∃ X, sumX (readSm s).1 v = X := ⟨_, rfl⟩
  obtain ⟨er, here⟩ : ∃ er, (readSm s).2 = er := ⟨_, rfl⟩
  obtain ⟨a3, c3, rfl, _⟩ := owned_list ho
  have HS := Lib.hid (And.intro hX here)
  have HO := Lib.hid ho
  rw [hX, here]
  have hXs : X.size = 6 := by rw [← hX]; rfl
  have hone : X.all (·.oneCell') = true := by rw [← hX]; exact sumV_one _ _ _ _ _ _ _ _
  have hsx2 : (Try.prog.info? 48).map (·.size) = some X.size := by rw [hXs]; exact size_sum
  have hold : (sumZ).size = X.size := by rw [hXs]; rfl
  have hd := setRow_heap w3 (w.heap.size + 1) _ (X) _ _ n3
  have hb := below_setRow (g := w.heap.size + 1) (HB.out.trans (b3.mono HB.out.size)) (by omega) (X)
  clear b3 n1' n2 HB hw1 hw2 hs1 hX here HC ho
  go_wp2_with (refine wpList_store_row rfl 48 _ _ rfl (w.heap.size + 1) (X) rfl rfl _ _ n3 hsx2 hold hone ?_)
  refine bodyPost_ret (results_sum rfl _ _ (w.heap.size + 1) X _ _ rfl hd hXs) rfl ?_
  exact ⟨hb, _, by rw [HS.out.1, HS.out.2]; rfl, (owns_same HO.out fun j hj => setRow_other _ _ _ _ (by have := (HO.out.lt j hj).1; omega)).less (by omega)⟩

end Go.Proofs.Ytplkglepbedhoaa
