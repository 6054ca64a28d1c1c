/- The fixed fact of layer 3's laws, by its walk. -/
import Derived.Test.YthainmbapikjiaaGheienjho
namespace Go.Proofs.Ythainmbapikjiaa
open Go.RowKit Go.Sort
set_option linter.unusedVariables false
set_option linter.unusedSimpArgs false
set_option maxRecDepth 100000

def byteS (b : Nat) : List Nat := b :: List.replicate 127 0
theorem byteS_length (b : Nat) : (byteS b).length = 128 := rfl
theorem byteS_bytes {b : Nat} (h : b < 256) : Bytes (byteS b) := by
  intro x hx
  simp only [byteS, List.mem_cons, List.mem_replicate] at hx
  rcases hx with rfl | ⟨_, rfl⟩
  · exact h
  · decide
theorem build_5 (w : World) : (Instr.build 106 #[(0, .int .u8 5)]).run Try.prog w = .ok (.agg (cells (byteS 5))) w := by kernel_rfl
theorem build_6 (w : World) : (Instr.build 106 #[(0, .int .u8 6)]).run Try.prog w = .ok (.agg (cells (byteS 6))) w := by kernel_rfl
theorem build_1 (w : World) : (Instr.build 106 #[(0, .int .u8 1)]).run Try.prog w = .ok (.agg (cells (byteS 1))) w := by kernel_rfl

theorem IsDisk.far {B : Nat} {w : World} {g gs : Nat} {cv : Value} {D : DiskD} (h : IsDisk B w g gs cv D) {k : Nat} (hk : w.heap.size ≤ k) : k ≠ g ∧ k ≠ gs ∧ cv.ownBlock ≠ some k := by
  have h1 := (Array.getElem?_eq_some_iff.1 h.1).1
  have h2 := (Array.getElem?_eq_some_iff.1 h.2.1).1
  exact ⟨by omega, by omega, fun e => by have := World.ownsRow.lt h.2.2.1 k e; omega⟩

set_option maxHeartbeats 1600000 in
theorem awake3_true (w : World) : Calls Try.prog 10 #[] w fun e w' => e = .returned (.bool true) ∧ Below w.heap.size w w' := by
  have hz := zero_sector
  have hb5 := build_5
  have hb6 := build_6
  have s5 := byteS_length 5
  have s6 := byteS_length 6
  have HW : Hid (writeE (newD 2) 1 = 0 ∧ writeE (writeD (newD 2) 1 (byteS 5)) 1 = 0 ∧ refI (writeD (writeD (newD 2) 1 (byteS 5)) 1 (byteS 6)) 1 = 0 ∧ readS (writeD (writeD (newD 2) 1 (byteS 5)) 1 (byteS 6)) 1 = byteS 6) := by
    refine ⟨by decide +kernel, by decide +kernel, by decide +kernel, by decide +kernel⟩
  have HC : Hid (refI (crashD (writeD (writeD (newD 2) 1 (byteS 5)) 1 (byteS 6)) [true]) 1 = 0 ∧ readS (crashD (writeD (writeD (newD 2) 1 (byteS 5)) 1 (byteS 6)) [true]) 1 = byteS 5) := by
    refine ⟨by decide +kernel, by decide +kernel⟩
  go_enter Try.func10, Try.ntmps10
  go_wp2_with fail
  refine (dnew_is 2 w (by decide) (by decide)).mono ?_
  rintro e w1 ⟨g, gs, rfl, d1, b1⟩
  have D1 := Lib.hid d1
  have B1 := Lib.hid b1
  clear d1 b1
  go_wp2_with fail
  refine (dwrite_is D1.out (by decide) (by decide) 1 (byteS 5) s5 (byteS_bytes (by decide))).mono ?_
  rintro e w2 ⟨rfl, ⟨cv2, d2⟩, k2⟩
  have D2 := Lib.hid d2
  have B2 : Hid (Below w.heap.size w w2) := B1.out.trans (k2.below D1.out B1.out.size)
  clear D1 B1 d2 k2
  rw [HW.out.1]
  go_wp2_with fail
  refine (dwrite_is D2.out (by decide +kernel) (by decide +kernel) 1 (byteS 6) s6 (byteS_bytes (by decide))).mono ?_
  rintro e w3 ⟨rfl, ⟨cv3, d3⟩, k3⟩
  have D3 := Lib.hid d3
  have B3 : Hid (Below w.heap.size w w3) := B2.out.trans (k3.below D2.out B2.out.size)
  clear D2 B2 d3 k3
  rw [HW.out.2.1]
  go_wp2_with fail
  refine (dread_is D3.out 1).mono ?_
  rintro e w4 ⟨rfl, b4⟩
  rw [HW.out.2.2.1, HW.out.2.2.2]
  have D4 := Lib.hid (D3.out.more b4)
  have B4 : Hid (Below w.heap.size w w4) := B3.out.trans (b4.mono B3.out.size)
  clear D3 B3 b4
  have n4 := heap_alloc_new w4 (.cells (cells noughts) 106)
  go_wp2_with (refine wpList_store_sector rfl _ _ rfl w4.heap.size (byteS 6) (by go_simp) (by go_simp) s6 _ _ n4 rfl ?_)
  rw [World.setRow_alloc_new]
  have b5 := below_box w4 (.cells (cells (byteS 6)) 106)
  have n5 := heap_alloc_new w4 (.cells (cells (byteS 6)) 106)
  obtain ⟨w5, hw5⟩ : ∃ w5, w4.alloc (.cells (cells (byteS 6)) 106) = w5 := ⟨_, rfl⟩
  rw [hw5] at b5 n5 ⊢
  have s5 : w5.heap.size = w4.heap.size + 1 := by rw [← hw5]; simp
  clear n4 hw5
  have D5 := Lib.hid (D4.out.more b5)
  have B5 : Hid (Below w.heap.size w w5) := B4.out.trans (b5.mono B4.out.size)
  obtain ⟨m, hm⟩ : ∃ m, w4.heap.size = m := ⟨_, rfl⟩
  have hne : Hid (∀ k, m ≤ k → k ≠ g ∧ k ≠ gs ∧ cv3.ownBlock ≠ some k) := fun k hk => D4.out.far (by omega)
  rw [hm] at n5 s5 ⊢
  clear b5 D4 B4 hm
  have b6 := below_box w5 (.cells #[.bool true] 4)
  have n6 := heap_alloc_new w5 (.cells #[.bool true] 4)
  obtain ⟨w6, hw6⟩ : ∃ w6, w5.alloc (.cells #[.bool true] 4) = w6 := ⟨_, rfl⟩
  rw [hw6] at b6 n6 ⊢
  have s6 : w6.heap.size = w5.heap.size + 1 := by rw [← hw6]; simp
  clear hw6
  have D6 := Lib.hid (D5.out.more b6)
  have B6 : Hid (Below w.heap.size w w6) := B5.out.trans (b6.mono B5.out.size)
  have n56 := (b6.block m (by omega)).trans n5
  rw [show m + 1 = w5.heap.size by omega]
  refine (dcrash_is _ _ _ [true] D6.out ⟨rfl, .inr ⟨w5.heap.size, 0, rfl, by omega, fun i hi => ?_⟩⟩ (by decide) ?_).mono ?_
  · obtain rfl : i = 0 := by simp at hi; exact hi
    unfold World.cell?
    simp only [n6]
    rfl
  · intro _ x hx
    cases hx
    exact hne.out _ (by show m ≤ w5.heap.size; omega)
  rintro e w7 ⟨rfl, d7, k7⟩
  have n7 : w7.heap[m]? = some (.cells (cells (byteS 6)) 106 (0, 0)) := by
    obtain ⟨h1, h2, h3⟩ := hne.out m (Nat.le_refl _)
    exact (k7.block m (by omega) h1 h2 h3).trans n56
  have D7 := Lib.hid d7
  have B7 : Hid (Below w.heap.size w w7) := B6.out.trans (k7.below D6.out B6.out.size)
  have hm7 : m < w7.heap.size := (Array.getElem?_eq_some_iff.1 n7).1
  clear D5 B5 D6 B6 d7 k7 n5 n6 n56 b6 s5 s6 hne
  go_wp2_with fail
  refine (dread_is D7.out 1).mono ?_
  rintro e w8 ⟨rfl, b8⟩
  rw [HC.out.1, HC.out.2]
  have n8 := (b8.block m hm7).trans n7
  have hm8 := Nat.lt_of_lt_of_le hm7 b8.size
  have B8 : Hid (Below w.heap.size w w8) := B7.out.trans (b8.mono B7.out.size)
  have na := heap_alloc_new w8 (.cells (cells noughts) 106)
  have hs5 := byteS_length 5
  clear D7 B7 b8 n7 hm7
  have b9 := below_box w8 (.cells (cells (byteS 5)) 106)
  have n9 := heap_alloc_new w8 (.cells (cells (byteS 5)) 106)
  have e9 := World.setRow_alloc_new w8 (cells noughts) (cells (byteS 5)) 106
  obtain ⟨w9, hw9⟩ : ∃ w9, w8.alloc (.cells (cells (byteS 5)) 106) = w9 := ⟨_, rfl⟩
  rw [hw9] at b9 n9 e9
  have c6 : w9.cell? ⟨m, 0, none⟩ = some (.int .u8 6) := by
    unfold World.cell?
    rw [(b9.block m hm8).trans n8]
    rfl
  have c5 : w9.cell? ⟨w8.heap.size, 0, none⟩ = some (.int .u8 5) := by
    unfold World.cell?
    rw [n9]
    rfl
  have B9 : Hid (Below w.heap.size w w9) := B8.out.trans (b9.mono B8.out.size)
  clear b9 n9 n8 B8 hw9
  go_wp2_with (refine wpList_store_sector rfl _ _ rfl w8.heap.size (byteS 5) (by go_simp) (by go_simp) hs5 _ _ na rfl ?_; rw [e9])
  go_ret
  exact ⟨rfl, B9.out⟩
end Go.Proofs.Ythainmbapikjiaa
