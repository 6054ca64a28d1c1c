/- What a superblock is the superblock of. -/
import Derived.Test.YtedhfgadphjobaaGRead
namespace Go.Proofs.Ytedhfgadphjobaa
open Go.RowKit Go.Sort
set_option linter.unusedVariables false
set_option maxRecDepth 100000

theorem numAt_super {s g i : Nat} (hs : s < 4294967296) (hg : g < 4294967296) (hi : i < 4294967296) : numAt (superB s g i) 0 = s ∧ numAt (superB s g i) 1 = g ∧ numAt (superB s g i) 2 = i := by
  have hl := superB_length s g i
  have e0 : ((superB s g i).drop (4 * 0)).take 4 = low s 4 := rfl
  have e1 : ((superB s g i).drop (4 * 1)).take 4 = low g 4 := rfl
  have e2 : ((superB s g i).drop (4 * 2)).take 4 = low i 4 := rfl
  refine ⟨?_, ?_, ?_⟩
  · unfold numAt; rw [if_pos (by omega), e0]; exact le_low _ _ hs
  · unfold numAt; rw [if_pos (by omega), e1]; exact le_low _ _ hg
  · unfold numAt; rw [if_pos (by omega), e2]; exact le_low _ _ hi
theorem bodyO_super (s g i : Nat) : bodyO (superL s g i) = superB s g i := by
  unfold bodyO superL
  rw [openB_sealL (by decide) (by rw [superB_length]; decide), if_pos rfl, sealL_body _ _ (by rw [superB_length]; decide)]
theorem super_is {s g i : Nat} (h : mayB s g i = true) : isSuper (superL s g i) = true ∧ superOf (superL s g i) 0 = s ∧ superOf (superL s g i) 1 = g ∧ superOf (superL s g i) 2 = i := by
  have hb := (mayB_yes h).1
  unfold bnd at hb
  obtain ⟨e0, e1, e2⟩ := numAt_super (s := s) (g := g) (i := i) (by omega) (by omega) (by omega)
  have f0 : superOf (superL s g i) 0 = s := by unfold superOf; rw [bodyO_super, e0]
  have f1 : superOf (superL s g i) 1 = g := by unfold superOf; rw [bodyO_super, e1]
  have f2 : superOf (superL s g i) 2 = i := by unfold superOf; rw [bodyO_super, e2]
  refine ⟨?_, f0, f1, f2⟩
  unfold isSuper
  rw [f0, f1, f2, h]
  simp

theorem run_neq_geom (a b c : Int) (w : World) : (binOp .neq 67 (.agg #[.int .i64 a, .int .i64 b, .int .i64 c]) (.agg #[.int .i64 a, .int .i64 b, .int .i64 c])).run Try.prog w = .ok (.bool false) w := by
  go_simp
theorem run_eql_geom (a b c : Int) (w : World) : (binOp .eql 67 (.agg #[.int .i64 a, .int .i64 b, .int .i64 c]) (.agg #[.int .i64 a, .int .i64 b, .int .i64 c])).run Try.prog w = .ok (.bool true) w := by
  go_simp

theorem noughts_bytes : Bytes noughts := by intro x hx; have := List.eq_of_mem_replicate hx; omega
end Go.Proofs.Ytedhfgadphjobaa
