/- Two sectors, compared as arrays. -/
import Derived.Test.YtedhfgadphjobaaSector
import Derived.Laws.StructEq
namespace Go.Proofs.Ytedhfgadphjobaa
open Go.RowKit
set_option linter.unusedVariables false
set_option maxRecDepth 100000

theorem run_size_u8 (w : World) : (sizeOf 5).run Try.prog w = .ok 1 w := by kernel_rfl
theorem run_agg_u8 (w : World) : (isAgg 5).run Try.prog w = .ok false w := by kernel_rfl
theorem run_part_byte (l : List Nat) (i : Nat) (hi : i < l.length) (w : World) : (part 5 (cells l) i).run Try.prog w = .ok (byteV (l.getD i 0)) w := by
  unfold part
  simp only [Sem.run_bind, run_agg_u8, Result.andThen_ok]
  have h : (cells l)[i]? = some (byteV (l.getD i 0)) := by simp [cells, List.getD, List.getElem?_eq_getElem hi]
  rw [if_neg (by decide), h]
  rfl
theorem run_equalIn_byte (d x y : Nat) (w : World) : (Op.equalIn (d + 1) 5 (byteV x) (byteV y)).run Try.prog w = .ok ((x : Int) == y) w := by
  simp [Op.equalIn, byteV, run_underlying Try.underlying5]

theorem run_cells_loop (d : Nat) (a b : List Nat) (ha : a.length = 128) (hb : b.length = 128) (w : World) (F : Option Bool × Unit → World → Result Bool)
    (h1 : F (none, ()) w = .ok true w) (h2 : F (some false, ()) w = .ok false w) : ∀ m k : Nat, k + m = 128 → a.take k = b.take k →
      ((forIn (m := Sem) (List.range' k m 1) ((none : Option Bool), ()) fun i __s => do
            let x ← part 5 (cells a) (i * 1)
            let y ← part 5 (cells b) (i * 1)
            let r ← Op.equalIn (d + 1) 5 x y
            if (!r) = true then pure (ForInStep.done (some false, ())) else pure (ForInStep.yield (none, ()))).run Try.prog w).andThen F = .ok (decide (a = b)) w := by
  intro m
  induction m with
  | zero =>
    intro k hk he
    rw [List.take_of_length_le (by omega), List.take_of_length_le (by omega)] at he
    subst he
    simpa using h1
  | succ m ih =>
    intro k hk he
    rw [List.range'_succ, List.forIn_cons]
    simp only [Nat.mul_one, Sem.run_bind, run_part_byte a k (by omega), run_part_byte b k (by omega), Result.andThen_ok, run_equalIn_byte]
    by_cases hx : a.getD k 0 = b.getD k 0
    · rw [hx]
      simp only [beq_self_eq_true, Bool.not_true, Bool.false_eq_true, if_false, Sem.run_pure, Result.andThen_ok]
      have := ih (k + 1) (by omega) (by rw [take_snoc_getD a k (by omega), take_snoc_getD b k (by omega), he, hx])
      simpa using this
    · have hne : (((a.getD k 0 : Nat) : Int) == ((b.getD k 0 : Nat) : Int)) = false := by simp only [beq_eq_false_iff_ne, ne_eq]; omega
      have hab : ¬ a = b := by rintro rfl; exact hx rfl
      simp only [hne, Bool.not_false, if_true, Sem.run_pure, Result.andThen_ok, hab, decide_false, h2]

theorem run_equalIn_sector (d : Nat) (a b : List Nat) (ha : a.length = 128) (hb : b.length = 128) (w : World) :
    (Op.equalIn (d + 2) 46 (.agg (cells a)) (.agg (cells b))).run Try.prog w = .ok (decide (a = b)) w := by
  unfold Op.equalIn
  simp only [Sem.run_bind, run_underlying row_sector, Result.andThen_ok, run_size_u8]
  rw [Std.Legacy.Range.forIn_eq_forIn_range']
  refine run_cells_loop d a b ha hb w _ ?_ ?_ 128 0 (by omega) (by simp)
  · simp
  · simp

/-- '==' and '!=' of two sectors. -/
theorem run_neq_sector (a b : List Nat) (ha : a.length = 128) (hb : b.length = 128) (w : World) : (binOp .neq 46 (.agg (cells a)) (.agg (cells b))).run Try.prog w = .ok (.bool (!decide (a = b))) w := by
  simp only [binOp]
  simp [Op.equal, Op.maxDepth, run_equalIn_sector 9998 a b ha hb w]
theorem run_eql_sector (a b : List Nat) (ha : a.length = 128) (hb : b.length = 128) (w : World) : (binOp .eql 46 (.agg (cells a)) (.agg (cells b))).run Try.prog w = .ok (.bool (decide (a = b))) w := by
  simp only [binOp]
  simp [Op.equal, Op.maxDepth, run_equalIn_sector 9998 a b ha hb w]
end Go.Proofs.Ytedhfgadphjobaa
