/- The document's disk: made. -/
import Derived.Test.YthainmbapikjiaaGfmmdidnb
import Derived.Test.YthainmbapikjiaaGkgojahoh
namespace Go.Proofs.Ythainmbapikjiaa
open Go.RowKit Go.Sort
set_option linter.unusedVariables false
set_option linter.unusedSimpArgs false
set_option maxRecDepth 100000

theorem secV_flat (l : List (List Nat)) : secV l = flatR (secR l) := by
  unfold secV flatR secR
  rw [List.flatMap_map]
theorem rnew_is (n : Nat) (w : World) (h1 : 1 ≤ n) (h2 : n ≤ 65536) :
    Calls Try.prog 55 #[.int .i64 n] w fun e w' => ∃ v, e = .returned v ∧ RefIs w.heap.size w' (newD n) v ∧ Below w.heap.size w w' := by
  obtain ⟨i0, hi, hz0, hz1, hz2⟩ := info_parts infoArr
  have hmk := fun W => run_make_rowN (P := Try.prog) 25 39 i0 (.agg (cells noughts)) Try.underlying25 hi hz0 .i64 .i64 n n (Nat.le_refl _) (by rw [hz2]; omega) (by omega) W
  simp only [hz1, Value.cells, made_noughts] at hmk
  have O : ∀ W : World, w.heap.size ≤ W.heap.size → OwnsR' w.heap.size (W.alloc (.cells (secV (List.replicate n noughts)).toArray 39)) 39 128 (.slice (some ⟨W.heap.size, 0, none⟩) n n) (secR (List.replicate n noughts)) := by
    intro W hW
    have h := OwnsR'.new (B := w.heap.size) (w := W) (e := 39) (k := 128) (l := secR (List.replicate n noughts)) (cs := (secV (List.replicate n noughts)).toArray) (by
      intro p hp
      obtain ⟨s, hs, rfl⟩ := List.mem_map.1 hp
      rw [List.eq_of_mem_replicate hs]
      rfl) hW (by unfold secR maxLen; simp; omega) (by rw [List.toList_toArray]; exact secV_flat _)
    have hl : (secR (List.replicate n noughts)).length = n := by unfold secR; simp
    rw [hl] at h
    exact h
  have HO := Lib.hid O
  clear O hi hz0 hz1 hz2
  go_enter Try.func55, Try.ntmps55
  go_wp2
  have n0 : ((w.alloc (.cells #[.slice (some ⟨w.heap.size + 1, 0, none⟩) n n, .slice none 0 0, .bool false, .int .i64 (-1), .int .i64 0] 28)).alloc (.cells (secV (List.replicate n noughts)).toArray 39)).heap[w.heap.size]? = some (.cells #[.slice (some ⟨w.heap.size + 1, 0, none⟩) n n, .slice none 0 0, .bool false, .int .i64 (-1), .int .i64 0] 28 (0, 0)) :=
    ((below_box (w.alloc (.cells #[.slice (some ⟨w.heap.size + 1, 0, none⟩) n n, .slice none 0 0, .bool false, .int .i64 (-1), .int .i64 0] 28)) (.cells (secV (List.replicate n noughts)).toArray 39)).block _ (by simp)).trans (heap_alloc_new w _)
  refine bodyPost_ret (results_five rfl _ _ w.heap.size rfl ⟨cell_of_row n0 0, cell_of_row n0 1, cell_of_row n0 2, cell_of_row n0 3, cell_of_row n0 4⟩) rfl ?_
  have hs := HO.out (w.alloc (.cells #[.slice (some ⟨w.heap.size + 1, 0, none⟩) n n, .slice none 0 0, .bool false, .int .i64 (-1), .int .i64 0] 28)) (by simp)
  have e1 : (w.alloc (.cells #[.slice (some ⟨w.heap.size + 1, 0, none⟩) n n, .slice none 0 0, .bool false, .int .i64 (-1), .int .i64 0] 28)).heap.size = w.heap.size + 1 := by simp
  rw [e1] at hs
  refine ⟨_, rfl, ⟨some ⟨w.heap.size + 1, 0, none⟩, n, none, 0, ?_, ?_, OwnsR'.nil _ _ _ _⟩, below_two _ _ _⟩
  · unfold newD
    rw [List.length_replicate]
    rfl
  · show OwnsR' _ _ _ _ (.slice _ (List.replicate n noughts).length _) _
    rw [List.length_replicate]
    exact hs
end Go.Proofs.Ythainmbapikjiaa
