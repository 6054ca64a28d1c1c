/- '==' of two writes of the document's disk. -/
import Derived.Test.YthainmbapikjiaaGcpefjkef
namespace Go.Proofs.Ythainmbapikjiaa
open Go.ChangeShapes Go.WideShapes Go.ChangeAt Go.RowKit Go.Sort
set_option linter.unusedVariables false
set_option linter.unusedSimpArgs false
set_option maxRecDepth 100000

theorem run_agg_secR (w : World) : (isAgg 39).run Try.prog w = .ok true w := by kernel_rfl
theorem run_size_secR (w : World) : (sizeOf 39).run Try.prog w = .ok 128 w := by kernel_rfl
theorem part_wrR0 (n : Nat) (s : List Nat) (w : World) : (part 3 (wrV (n, s)).toArray 0).run Try.prog w = .ok (.int .i64 n) w := by
  unfold part
  simp only [Sem.run_bind, run_agg_intW, Result.andThen_ok]
  have h : (wrV (n, s)).toArray[0]? = some (.int .i64 (n : Int)) := by simp [wrV]
  rw [if_neg (by decide), h]
  rfl
theorem part_wrR1 (n : Nat) (s : List Nat) (hs : s.length = 128) (w : World) : (part 39 (wrV (n, s)).toArray 1).run Try.prog w = .ok (.agg (cells s)) w := by
  unfold part
  simp only [Sem.run_bind, run_agg_secR, Result.andThen_ok, if_true, run_size_secR, Sem.run_pure]
  have h : (wrV (n, s)).toArray.extract 1 (1 + 128) = cells s := by
    rw [List.extract_toArray]
    unfold cells
    congr 1
    unfold List.extract wrV
    simp [hs]
    exact List.take_of_length_le (by simp [hs])
  rw [h]
theorem stood_wrR : Try.prog.stoodInHeld 41 = false := by kernel_rfl
set_option maxHeartbeats 1600000 in
theorem run_equalIn_wrR (d : Nat) (a b : Nat) (s t : List Nat) (hs : s.length = 128) (ht : t.length = 128) (w : World) :
    (Op.equalIn (d + 3) 41 (.agg (wrV (a, s)).toArray) (.agg (wrV (b, t)).toArray)).run Try.prog w = .ok (decide (a = b ∧ s = t)) w := by
  unfold Op.equalIn
  simp only [Sem.run_bind, run_underlying Try.underlying41, Result.andThen_ok]
  have hp : (Sem.run Try.prog program w) = .ok Try.prog w := rfl
  rw [hp]
  simp only [Result.andThen_ok, stood_wrR, Bool.false_eq_true, if_false]
  have h0 : ∀ w, _ := part_wrR0 a s
  have h1 : ∀ w, _ := part_wrR0 b t
  have h2 : ∀ w, _ := part_wrR1 a s hs
  have h3 : ∀ w, _ := part_wrR1 b t ht
  have h4 := fun w => run_equalIn_intW (d + 1) (a : Int) (b : Int) w
  have h5 := fun w => run_equalIn_full d s t hs ht w
  by_cases hab : a = b
  · subst hab
    simp [h0, h1, h2, h3, h4, h5]
    by_cases hst : s = t
    · simp [hst]
    · simp [hst]
  · have e : ((a : Int) == (b : Int)) = false := by simp; omega
    simp [h0, h1, h2, h3, h4, h5, e, hab]
theorem run_neq_wrR (a b : Nat) (s t : List Nat) (hs : s.length = 128) (ht : t.length = 128) (w : World) : (binOp .neq 41 (.agg (wrV (a, s)).toArray) (.agg (wrV (b, t)).toArray)).run Try.prog w = .ok (.bool (!decide (a = b ∧ s = t))) w := by
  simp only [binOp]
  simp [Op.equal, Op.maxDepth, run_equalIn_wrR 9997 a b s t hs ht w]
theorem run_eql_wrR (a b : Nat) (s t : List Nat) (hs : s.length = 128) (ht : t.length = 128) (w : World) : (binOp .eql 41 (.agg (wrV (a, s)).toArray) (.agg (wrV (b, t)).toArray)).run Try.prog w = .ok (.bool (decide (a = b ∧ s = t))) w := by
  simp only [binOp]
  simp [Op.equal, Op.maxDepth, run_equalIn_wrR 9997 a b s t hs ht w]
end Go.Proofs.Ythainmbapikjiaa
