/- slices.Clone of sectors, and of writes: what was cloned stands in a slice of its own. -/
import Derived.Test.YthainmbapikjiaaGbniecedi
namespace Go.Proofs.Ythainmbapikjiaa
open Go.RowKit Go.Sort
set_option linter.unusedVariables false
set_option linter.unusedSimpArgs false
set_option maxRecDepth 100000

/-- The sectors of a disk, as rows that are read. -/
theorem disk_rows {B : Nat} {w : World} {g gs : Nat} {cv : Value} {D : DiskD} (h : IsDisk B w g gs cv D) : ReadsR w (some ⟨gs, 0, none⟩) 128 (secR D.secs) := by
  refine ⟨fun p hp => ?_, .inr ⟨gs, 0, rfl, (Array.getElem?_eq_some_iff.1 h.2.1).1, fun i u hu => ?_⟩⟩
  · unfold secR at hp
    obtain ⟨s, hs, rfl⟩ := List.mem_map.1 hp
    rw [List.length_map]
    exact (h.2.2.2.1.1 s hs).1
  · rw [← secV_flat] at hu
    unfold World.cell?
    rw [h.2.1]
    simp only [List.getElem?_toArray, Nat.zero_add]
    rw [List.getElem?_append_left (List.getElem?_eq_some_iff.1 hu).1]
    exact hu
/-- A disk's cache, in the form of rows. -/
theorem disk_cache {B : Nat} {w : World} {g gs : Nat} {cv : Value} {D : DiskD} (h : IsDisk B w g gs cv D) : OwnsR' B w 130 129 cv (rowsW D.cache) := by
  refine ⟨fun p hp => ?_, ?_⟩
  · unfold rowsW at hp
    obtain ⟨x, hx, rfl⟩ := List.mem_map.1 hp
    exact wrV_length (h.2.2.2.1.2.1 x hx).2.1
  · have e1 : (rowsW D.cache).length = D.cache.length := by unfold rowsW; rw [List.length_map]
    have e2 : flatR (rowsW D.cache) = cacheV D.cache := by unfold flatR rowsW cacheV; rw [List.flatMap_map]
    rw [e1, e2]
    exact h.2.2.1
set_option maxHeartbeats 1600000 in
theorem clone_secs (b off n c : Nat) (rows : List (List Value)) (hn : rows.length = n) (hm : n ≤ 65536) (w : World) (hr : ReadsR w (some ⟨b, off, none⟩) 128 rows) (hone : OneRows rows) :
    Calls Try.prog 64 #[.slice (some ⟨b, off, none⟩) n c] w fun e w' => ∃ v', e = .returned v' ∧ OwnsR' w.heap.size w' 106 128 v' rows ∧ Below w.heap.size w w' := by
  have b1 := below_box w (.cells #[] 106)
  obtain ⟨w1, hw1⟩ : ∃ x, w.alloc (.cells #[] 106) = x := ⟨_, rfl⟩
  obtain ⟨g1, hg1⟩ : ∃ x, w.heap.size = x := ⟨_, rfl⟩
  have o1 : OwnsR' w.heap.size w1 106 128 (.slice (some ⟨g1, 0, none⟩) 0 0) [] := by
    rw [← hw1, ← hg1]
    exact OwnsR'.new (l := []) (by simp) (Nat.le_refl _) (by unfold maxLen; simp) (cs := #[]) rfl
  rw [hw1] at b1
  have O1 := Lib.hid o1
  have B1 := Lib.hid b1
  have HR1 := Lib.hid (hr.below b1)
  have HNL := Lib.hid hn
  have HONE := Lib.hid hone
  have hnil : ∀ W : World, (binOp .eql 123 (.slice (some ⟨b, off, none⟩) n c) (.slice none 0 0)).run Try.prog W = .ok (.bool false) W := fun _ => rfl
  clear hn hr o1 b1 hone
  go_enter Try.func64, Try.ntmps64
  go_wp2_with (at_builtin; refine wpList_append_rows' rfl _ _ 123 rfl w.heap.size 106 (.agg (cells noughts)) 128 128 Try.underlying123 info_sec rfl (by decide) _ [] (by rfl) O1.out _ _ rows (by rw [HNL.out]; rfl) HR1.out HONE.out (by rw [HNL.out]; simp; omega) (by rw [HNL.out]; unfold maxLen; simp; omega) B1.out.size ?_; intro v2 w2 o2 g2)
  go_ret
  rw [List.nil_append] at o2
  exact ⟨v2, rfl, o2, B1.out.grown g2 B1.out.size (fun j hj => (O1.out.lt j hj).1)⟩
set_option maxHeartbeats 1600000 in
theorem clone_wr (b off n c : Nat) (rows : List (List Value)) (hn : rows.length = n) (hm : n ≤ 1000000) (w : World) (hr : ReadsR w (some ⟨b, off, none⟩) 129 rows) (hone : OneRows rows) :
    Calls Try.prog 65 #[.slice (some ⟨b, off, none⟩) n c] w fun e w' => ∃ v', e = .returned v' ∧ OwnsR' w.heap.size w' 130 129 v' rows ∧ Below w.heap.size w w' := by
  have b1 := below_box w (.cells #[] 130)
  obtain ⟨w1, hw1⟩ : ∃ x, w.alloc (.cells #[] 130) = x := ⟨_, rfl⟩
  obtain ⟨g1, hg1⟩ : ∃ x, w.heap.size = x := ⟨_, rfl⟩
  have o1 : OwnsR' w.heap.size w1 130 129 (.slice (some ⟨g1, 0, none⟩) 0 0) [] := by
    rw [← hw1, ← hg1]
    exact OwnsR'.new (l := []) (by simp) (Nat.le_refl _) (by unfold maxLen; simp) (cs := #[]) rfl
  rw [hw1] at b1
  have O1 := Lib.hid o1
  have B1 := Lib.hid b1
  have HR1 := Lib.hid (hr.below b1)
  have HNL := Lib.hid hn
  have HONE := Lib.hid hone
  have hnil : ∀ W : World, (binOp .eql 124 (.slice (some ⟨b, off, none⟩) n c) (.slice none 0 0)).run Try.prog W = .ok (.bool false) W := fun _ => rfl
  clear hn hr o1 b1 hone
  go_enter Try.func65, Try.ntmps65
  go_wp2_with (at_builtin; refine wpList_append_rows' rfl _ _ 124 rfl w.heap.size 130 (.agg (wrV (0, noughts)).toArray) 129 136 Try.underlying124 wr_info rfl (by decide) _ [] (by rfl) O1.out _ _ rows (by rw [HNL.out]; rfl) HR1.out HONE.out (by rw [HNL.out]; simp; omega) (by rw [HNL.out]; unfold maxLen; simp; omega) B1.out.size ?_; intro v2 w2 o2 g2)
  go_ret
  rw [List.nil_append] at o2
  exact ⟨v2, rfl, o2, B1.out.grown g2 B1.out.size (fun j hj => (O1.out.lt j hj).1)⟩
theorem clone_wr_nil (w : World) : Calls Try.prog 65 #[.slice none 0 0] w fun e w' => e = .returned (.slice none 0 0) ∧ w = w' := by
  have hnil : ∀ W : World, (binOp .eql 124 (.slice none 0 0) (.slice none 0 0)).run Try.prog W = .ok (.bool true) W := fun _ => rfl
  go_enter Try.func65, Try.ntmps65
  go_wp2
  go_ret
  exact ⟨rfl, rfl⟩
end Go.Proofs.Ythainmbapikjiaa
