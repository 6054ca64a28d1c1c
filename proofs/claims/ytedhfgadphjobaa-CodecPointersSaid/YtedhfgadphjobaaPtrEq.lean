/- Pointers: opened, compared; bytes of what is written. -/
import Derived.Test.YtedhfgadphjobaaPtr5
import Derived.Test.YtedhfgadphjobaaGeoOpen
namespace Go.Proofs.Ytedhfgadphjobaa
open Go.ChangeShapes Go.WideShapes Go.ChangeAt Go.RowKit Go.Joins Go.Sort
set_option linter.unusedVariables false
set_option linter.unusedSimpArgs false
set_option maxRecDepth 100000

/-- Pointers that came in, opened. -/
theorem open_ptr {H : Type} {enc : TypeId × Value → H} {W : World} {base : Nat} {v : Value} {d : DataW H} {ps : List MemPlace}
    (hok : Value.okWide Try.prog W .any base 100 v) (h : DataW.Trod enc Try.prog W 0 (fun _ => true) true 100 v d ps) : ∃ l : List FldD, v = .agg (cellsF l) ∧ IsPtr l := by
  obtain ⟨cs, rfl, hsz⟩ : ∃ cs, v = .agg cs ∧ cs.size = 32 := by
    unfold Value.okWide at hok
    rw [Try.underlying100] at hok
    obtain ⟨cs, h1, h2, _⟩ := hok
    exact ⟨cs, h1, h2.trans (by kernel_rfl)⟩
  obtain ⟨fuel, hf⟩ := h
  obtain ⟨xs, m, _, _, _, hxs, hel⟩ := DataW.trod_array Try.underlying100 hf
  have hce : Try.prog.cellsOf 3 = 1 := by kernel_rfl
  have hall : ∀ j, j < 32 → ∃ z, cs[j]? = some (.int .i64 z) ∧ I64 z := by
    intro j hj
    have e0 := hel j hj
    rw [hce] at e0
    obtain ⟨y0, hy0⟩ : ∃ y, xs[j]? = some y := ⟨xs[j], List.getElem?_eq_getElem (by omega)⟩
    rw [hy0] at e0
    obtain ⟨z, f0, _, w0⟩ := DataW.trod_int Try.underlying3 (by simpa [Value.cells] using e0)
    refine ⟨z, ?_, i64_of_wf w0⟩
    have h1 := congrArg List.head? f0
    rw [List.head?_take, if_neg (by decide), List.head?_drop, Array.getElem?_toList] at h1
    exact h1
  refine ⟨(List.range 32).map fun j => ⟨.i64, 4, intOf (cs.getD j undef)⟩, ?_, by simp, fun j hj => ?_⟩
  · congr 1
    apply Array.ext_getElem?
    intro j
    have hR : ∀ (L : List FldD), (cellsF L)[j]? = (L[j]?).map (fun x => Value.int x.kind x.z) := by intro L; unfold cellsF; simp
    rw [hR, List.getElem?_map]
    by_cases hj : j < 32
    · obtain ⟨z, hz, _⟩ := hall j hj
      rw [List.getElem?_range hj, hz]
      have : cs.getD j undef = .int .i64 z := by rw [Array.getD_eq_getD_getElem?, hz]; rfl
      show _ = some (Value.int .i64 (intOf (cs.getD j undef)))
      rw [this]
      rfl
    · rw [Array.getElem?_eq_none (by omega), List.getElem?_eq_none (by simp; omega)]
      rfl
  · obtain ⟨z, hz, hi⟩ := hall j hj
    refine ⟨z, ?_, hi⟩
    have : cs.getD j undef = .int .i64 z := by rw [Array.getD_eq_getD_getElem?, hz]; rfl
    rw [List.getElem?_map, List.getElem?_range hj]
    show some (⟨.i64, 4, intOf (cs.getD j undef)⟩ : FldD) = _
    rw [this]
    rfl

theorem run_equalIn_int (d : Nat) (z : Int) (w : World) : (Op.equalIn (d + 1) 3 (.int .i64 z) (.int .i64 z)).run Try.prog w = .ok true w := by
  simp [Op.equalIn, run_underlying Try.underlying3]
theorem run_ptr_loop {l : List FldD} (hl : IsPtr l) (d : Nat) (w : World) (F : Option Bool × Unit → World → Result Bool)
    (h1 : F (none, ()) w = .ok true w) : ∀ m k : Nat, k + m = 32 →
      ((forIn (m := Sem) (List.range' k m 1) ((none : Option Bool), ()) fun i __s => do
            let x ← part 3 (rowV l).toArray (i * 1)
            let y ← part 3 (rowV l).toArray (i * 1)
            let r ← Op.equalIn (d + 1) 3 x y
            if (!r) = true then pure (ForInStep.done (some false, ())) else pure (ForInStep.yield (none, ()))).run Try.prog w).andThen F = .ok true w := by
  intro m
  induction m with
  | zero => intro k hk; simpa using h1
  | succ m ih =>
    intro k hk
    obtain ⟨z, e, _⟩ := hl.2 k (by omega)
    have hc : (rowV l).toArray[k]? = some (.int .i64 z) := by
      rw [List.getElem?_toArray]; unfold rowV; rw [List.getElem?_map, e]; rfl
    rw [List.range'_succ, List.forIn_cons]
    simp only [Nat.mul_one, Sem.run_bind, run_part_int hc, Result.andThen_ok, run_equalIn_int, Bool.not_true, Bool.false_eq_true, if_false, Sem.run_pure]
    have := ih (k + 1) (by omega)
    simpa using this
theorem run_equalIn_ptr {l : List FldD} (hl : IsPtr l) (d : Nat) (w : World) :
    (Op.equalIn (d + 2) 100 (.agg (rowV l).toArray) (.agg (rowV l).toArray)).run Try.prog w = .ok true w := by
  unfold Op.equalIn
  simp only [Sem.run_bind, run_underlying Try.underlying100, Result.andThen_ok, run_size_int]
  rw [Std.Legacy.Range.forIn_eq_forIn_range']
  refine run_ptr_loop hl d w _ ?_ 32 0 (by omega)
  simp
theorem run_neq_ptr {l : List FldD} (hl : IsPtr l) (w : World) : (binOp .neq 100 (.agg (rowV l).toArray) (.agg (rowV l).toArray)).run Try.prog w = .ok (.bool false) w := by
  simp only [binOp]
  simp [Op.equal, Op.maxDepth, run_equalIn_ptr hl 9998 w]
theorem run_eql_ptr {l : List FldD} (hl : IsPtr l) (w : World) : (binOp .eql 100 (.agg (rowV l).toArray) (.agg (rowV l).toArray)).run Try.prog w = .ok (.bool true) w := by
  simp only [binOp]
  simp [Op.equal, Op.maxDepth, run_equalIn_ptr hl 9998 w]

theorem writeP_bytes {l : List FldD} (h : IsPtr l) : Bytes (writeP l).1 := by
  unfold writeP
  split
  · next hp =>
    show Bytes (wrB l)
    rw [← lowsP_is h hp]
    intro x hx
    unfold lowsP at hx
    obtain ⟨y, _, hy⟩ := List.mem_flatMap.1 hx
    exact low_bytes _ _ x hy
  · show Bytes noughts
    intro x hx
    have : x = 0 := by simpa [noughts] using hx
    omega
theorem readP_isPtr {s : List Nat} (hb : Bytes s) : IsPtr (readP s).1 := by
  unfold readP
  split
  · exact rdP_is hb
  · exact zeroP_is
theorem writeP_err (l : List FldD) : (inP l → (writeP l).2 = 0) ∧ (¬ inP l → (writeP l).2 = 1) := ⟨fun h => by unfold writeP; rw [if_pos h], fun h => by unfold writeP; rw [if_neg h]⟩
theorem readP_err (s : List Nat) : (inP (rdP s) → (readP s).2 = 0) ∧ (¬ inP (rdP s) → (readP s).2 = 21) := ⟨fun h => by unfold readP; rw [if_pos h], fun h => by unfold readP; rw [if_neg h]⟩
end Go.Proofs.Ytedhfgadphjobaa
