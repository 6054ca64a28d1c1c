/- Two equal blocks of entries are equal. -/
import Derived.Test.YtcpbffmffoneeaaDoorGdibipdhp
import Derived.Deep.DeepCutAuto
import Derived.Deep.QuietTactic
import Derived.Lib.QuietBelow
import Derived.BigQuiet
namespace Go.Proofs.YtcpbffmffoneeaaDoor
open Go.RowKit Go.Sort
set_option linter.unusedVariables false
set_option linter.unusedSimpArgs false
set_option maxRecDepth 100000

theorem run_part_ent {E : List Ent} {j : Nat} {x : Ent} (h : E[j]? = some x) (w : World) : (part 30 (csE E) (j * 2)).run Tryd.prog w = .ok (.agg #[.int .i64 x.1, .string x.2]) w := by
  unfold part
  simp only [Sem.run_bind, run_agg_ent, Result.andThen_ok, if_true, run_size_ent, Sem.run_pure]
  rw [csE_extract h]
theorem run_eql_ent (z : Int) (s : ByteArray) (w : World) : (binOp .eql 30 (.agg #[.int .i64 z, .string s]) (.agg #[.int .i64 z, .string s])).run Tryd.prog w = .ok (.bool true) w := by
  go_simp
set_option maxHeartbeats 1600000 in
theorem run_equalIn_ent (z : Int) (s : ByteArray) (d : Nat) (w : World) : (Op.equalIn (d + 2) 30 (.agg #[.int .i64 z, .string s]) (.agg #[.int .i64 z, .string s])).run Tryd.prog w = .ok true w := by
  unfold Op.equalIn
  simp only [Sem.run_bind, run_underlying Tryd.underlying30, Result.andThen_ok]
  go_simp
theorem run_loopE {E : List Ent} (hE : E.length = 4) (d : Nat) (w : World) {F : Option Bool × Unit → World → Result Bool} (h1 : F (none, ()) w = .ok true w) : ∀ m k, k + m = 4 →
    ((forIn (List.range' k m) (none, ()) fun i (s : Option Bool × Unit) => do
            let x ← part 30 (csE E) (i * 2)
            let y ← part 30 (csE E) (i * 2)
            let r ← Op.equalIn (d + 2) 30 x y
            if (!r) = true then pure (ForInStep.done (some false, ())) else pure (ForInStep.yield (none, ()))).run Tryd.prog w).andThen F = .ok true w := by
  intro m
  induction m with
  | zero => intro k hk; simpa using h1
  | succ m ih =>
    intro k hk
    obtain ⟨x, hx⟩ : ∃ x, E[k]? = some x := ⟨_, List.getElem?_eq_getElem (by rw [hE]; omega)⟩
    rw [List.range'_succ, List.forIn_cons]
    simp only [Sem.run_bind, run_part_ent hx, Result.andThen_ok, run_equalIn_ent, Bool.not_true, Bool.false_eq_true, if_false, Sem.run_pure]
    have := ih (k + 1) (by omega)
    simpa using this
theorem run_equalIn_blk {E : List Ent} (hE : E.length = 4) (d : Nat) (w : World) :
    (Op.equalIn (d + 3) 31 (.agg (csE E)) (.agg (csE E))).run Tryd.prog w = .ok true w := by
  unfold Op.equalIn
  simp only [Sem.run_bind, run_underlying Tryd.underlying31, Result.andThen_ok, run_size_ent]
  rw [Std.Legacy.Range.forIn_eq_forIn_range']
  refine run_loopE hE d w ?_ 4 0 (by omega)
  simp
theorem run_eql_blk {E : List Ent} (hE : E.length = 4) (w : World) : (binOp .eql 31 (.agg (csE E)) (.agg (csE E))).run Tryd.prog w = .ok (.bool true) w := by
  simp only [binOp]
  simp [Op.equal, Op.maxDepth, run_equalIn_blk hE 9997 w]
theorem quietLoadRow {P : World → Prop} {o : Oper} {a : Act} {K : Act → Prop} (ty : TypeId) (x : Operand) (ho : o.op = .load ty x) (g off : Nat) (cs : List Value) (d : TypeDesc) (hx : a.eval x = .pointer (some ⟨g, off, none⟩))
    (hu : Tryd.prog.underlying ty = some d) (hd : d.isRow = true) (hi : (Tryd.prog.info? ty).map (·.size) = some cs.length) (hc : ∀ W, P W → W.rangeAt g off cs) (h : K (a.put o.dst (.agg cs.toArray))) : o.quiet Tryd.prog a P K :=
  ⟨.agg cs.toArray, fun W hW => by
    unfold Oper.quietAt execOp
    simp only [ho, hx]
    rw [Sem.run_bind, run_loadAt_mid W g off ty cs d (hc W hW) hu hd hi]
    exact ⟨rfl, rfl⟩, h⟩
theorem blk_regrown {W : World} {g : Nat} {X : List Ent} {t : TypeId} (h : W.heap[g]? = some (.cells (csE X) t (0, 0))) : ∀ W', (∃ p : Regrown, W' = grow (redrawn W p.d) p.os) → W'.rangeAt g 0 (X.flatMap entV) := by
  rintro _ ⟨p, rfl⟩
  have hb := below_regrown W p.d p.os
  exact row_range ((hb.block g (Array.getElem?_eq_some_iff.1 h).1).trans h)
end Go.Proofs.YtcpbffmffoneeaaDoor
