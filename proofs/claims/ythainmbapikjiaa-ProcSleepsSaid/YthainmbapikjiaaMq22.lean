/- Maps from int to int of a call's own: which keys they have, and what they hold. -/
import Derived.Test.YthainmbapikjiaaProc2
import Derived.Maps.OwnSet
import Derived.Maps.OwnOps
import Derived.Maps.RangeWalk
import Derived.WalkArith
import Derived.BigFrame
namespace Go.Proofs.Ythainmbapikjiaa
open Go.RowKit Go.Sort
open Go.Maps (Keyed int_keyed keyOf_int_mk)
set_option linter.unusedVariables false
set_option linter.unusedSimpArgs false
set_option maxRecDepth 100000

theorem lawQ : Keyed Try.prog 3 := int_keyed Try.underlying3
theorem zeroQ (w : World) : (zeroValue 3).run Try.prog w = .ok (.int .i64 0) w := by kernel_rfl
theorem keyQ {k : Int} (h : I64 k) : keyOf Try.prog 3 (.int .i64 k) = some (.int .i64 k) := keyOf_int_mk Try.underlying3 (WalkArith.wf_i64 h)
theorem litQ_ne {k j : Int} (h : j ≠ k) : (Lit.int .i64 j) ≠ Lit.int .i64 k := by intro e; injection e with _ e; exact h e
abbrev OMapQ (w : World) (b n : Nat) (D : DataW Unit) : Prop := w.ownsMap Try.prog 3 (plainElem Try.prog 3) b n D
/-- What a map reads as: so many entries, just these keys, these numbers, and 0 where there is none. -/
def ReadsQ (D : DataW Unit) (sz : Nat) (p : Int → Bool) (F : Int → Int) : Prop :=
  Maps.size D = sz ∧ ∀ k, I64 k → Maps.has D (.int .i64 k) = p k ∧ D.atKey (.int .i64 k) (.lit (.int .i64 0)) = .lit (.int .i64 (F k))
def IsWh (B : Nat) (w : World) (b n sz : Nat) (p : Int → Bool) (F : Int → Int) : Prop := B ≤ b ∧ ∃ D : DataW Unit, OMapQ w b n D ∧ ReadsQ D sz p F
theorem belowQ_grown {w w' : World} (h : Below w.heap.size w w') : w.grownBy w' none := ⟨h.os, h.tape, h.output, h.size, fun k hk _ => h.block k hk⟩
theorem IsWh.kept {B : Nat} {w w' : World} {b n sz : Nat} {p : Int → Bool} {F : Int → Int} {row : Option Nat} (h : IsWh B w b n sz p F) (hg : w.grownBy w' row) (hne : some b ≠ row) : IsWh B w' b n sz p F := by
  obtain ⟨h0, D, h1, h2⟩ := h
  exact ⟨h0, D, h1.kept hg hne, h2⟩
theorem IsWh.below {B : Nat} {w w' : World} {b n sz : Nat} {p : Int → Bool} {F : Int → Int} (h : IsWh B w b n sz p F) (hb : Below w.heap.size w w') : IsWh B w' b n sz p F := h.kept (belowQ_grown hb) (by simp)
theorem IsWh.lt {B : Nat} {w : World} {b n sz : Nat} {p : Int → Bool} {F : Int → Int} (h : IsWh B w b n sz p F) : b < w.heap.size := by obtain ⟨_, D, h1, _⟩ := h; exact h1.lt
theorem IsWh.same {B : Nat} {w : World} {b n n' sz sz' : Nat} {p p' : Int → Bool} {F F' : Int → Int} (h : IsWh B w b n sz p F) (hn : n ≤ n') (hs : sz = sz') (hp : ∀ k, I64 k → p k = p' k) (hF : ∀ k, I64 k → F k = F' k) : IsWh B w b n' sz' p' F' := by
  obtain ⟨h0, D, h1, h2, h3⟩ := h
  exact ⟨h0, D, h1.mono hn, h2.trans hs, fun k hk => ⟨(h3 k hk).1.trans (hp k hk), by rw [(h3 k hk).2, hF k hk]⟩⟩
/-- Such a map's block holds no cells. -/
theorem IsWh.ne {B : Nat} {w : World} {b n sz g : Nat} {p : Int → Bool} {F : Int → Int} (h : IsWh B w b n sz p F) {cs : Array Value} {t : TypeId} {fr : Nat × Nat} (hg : w.heap[g]? = some (.cells cs t fr)) : b ≠ g := by
  obtain ⟨_, D, ⟨es, cl, hb, _⟩, _⟩ := h
  rintro rfl
  rw [hb] at hg
  cases hg
theorem wh_new {B : Nat} (w : World) (hB : B ≤ w.heap.size) : IsWh B (w.alloc (.map #[] 0)) w.heap.size 0 0 (fun _ => false) (fun _ => 0) :=
  ⟨hB, _, World.ownsMap_made w Try.prog 3 _, rfl, fun k hk => ⟨rfl, rfl⟩⟩
section
variable {w : World} {ops : Array Oper} {rest : List Oper} {o : Oper} {a : Act} {Q : Exit → Act → World → Prop} {B b n sz : Nat}
theorem wpList_wh_look {p : Int → Bool} {F : Int → Int} (hw : Region.wanted o (yielded ops a.tmps) = true) (m x : Operand) (hop : o.op = Op.lookup 79 m x false) (h : IsWh B w b n sz p F) (hm : a.eval m = .map (some b)) (k : Int) (hk : I64 k) (hx : a.eval x = .int .i64 k)
    (hK : wpList Try.prog ops Q rest (a.put o.dst (.int .i64 (F k))) w) : wpList Try.prog ops Q (o :: rest) a w := by
  obtain ⟨h0, D, h1, h2, h3⟩ := h
  obtain ⟨c, hrun, hc, _⟩ := h1.lookup_int lawQ Try.underlying79 Try.underlying3 (zeroQ _) (keyQ hk)
  rw [(h3 k hk).2] at hc
  injection hc with hc
  injection hc with _ hc
  subst hc
  refine BigFrame.wpList_want hw fun K' hK' => ?_
  unfold Oper.wp
  simp [execOp, hop, hm, hx, hrun, Result.andThen]
  exact hK' _ _ hK
theorem wpList_wh_del {p : Int → Bool} {F : Int → Int} (hg : o.guard = none) (m x : Operand) (hop : o.op = Op.call { callee := Callee.builtin Builtin.delete, args := #[m, x], argTypes := #[79, 3] }) (h : IsWh B w b n sz p F) (hm : a.eval m = .map (some b)) (k : Int) (hk : I64 k) (hx : a.eval x = .int .i64 k)
    (hK : ∀ w', IsWh B w' b n (if p k then sz - 1 else sz) (fun j => p j && !decide (j = k)) (fun j => if j = k then 0 else F j) → w.grownBy w' (some b) → wpList Try.prog ops Q rest (a.put o.dst (.tuple #[])) w') : wpList Try.prog ops Q (o :: rest) a w := by
  obtain ⟨h0, D, h1, h2, h3⟩ := h
  refine wpList_delete_own w hg m x _ _ hop _ lawQ Try.underlying79 _ b n D hm h1 _ _ hx (keyQ hk) fun w' g1 g2 => hK w' ⟨h0, _, g1, ?_, fun j hj => ⟨?_, ?_⟩⟩ g2.grown
  · have hs := Maps.size_del (h1.tidy lawQ) (k := .int .i64 k)
    rw [(h3 k hk).1, h2] at hs
    cases hp : p k
    · rw [hp] at hs; simpa using hs
    · rw [hp] at hs; simp at hs ⊢; omega
  · by_cases e : j = k
    · subst e
      rw [Maps.has_del_same]
      simp
    · rw [Maps.has_del_other (litQ_ne e), (h3 j hj).1]
      simp [e]
  · by_cases e : j = k
    · subst e
      rw [Maps.atKey_del_same]
      simp
    · rw [Maps.atKey_del_other (litQ_ne e), (h3 j hj).2]
      simp [e]
theorem wpList_wh_len {p : Int → Bool} {F : Int → Int} (hw : Region.wanted o (yielded ops a.tmps) = true) (m : Operand) (hop : o.op = Op.call { callee := Callee.builtin Builtin.len, args := #[m], argTypes := #[79] }) (h : IsWh B w b n sz p F) (hm : a.eval m = .map (some b))
    (hK : wpList Try.prog ops Q rest (a.put o.dst (.int .i64 (sz : Nat))) w) : wpList Try.prog ops Q (o :: rest) a w := by
  obtain ⟨h0, D, h1, h2, h3⟩ := h
  refine BigFrame.wpList_want hw fun K' hK' => ?_
  unfold Oper.wp
  simp [execOp, hop, resolve, invoke, builtin, hm, h1.len Try.underlying79 o.type, Result.andThen]
  rw [h2]
  exact hK' _ _ hK
theorem wpList_wh_put {p : Int → Bool} {F : Int → Int} (hg : o.guard = none) (m x v : Operand) (hop : o.op = Op.mapUpdate 79 m x v) (h : IsWh B w b n sz p F) (hm : a.eval m = .map (some b)) (hn : n < maxLen) (k : Int) (hk : I64 k) (hx : a.eval x = .int .i64 k) (u : Int) (hu : I64 u) (hv : a.eval v = .int .i64 u)
    (hK : ∀ w', IsWh B w' b (n + 1) (if p k then sz else sz + 1) (fun j => decide (j = k) || p j) (fun j => if j = k then u else F j) → w.grownBy w' (some b) → wpList Try.prog ops Q rest (a.put o.dst undef) w') : wpList Try.prog ops Q (o :: rest) a w := by
  obtain ⟨h0, D, h1, h2, h3⟩ := h
  have hkl : WideAt.IsKeyLit (.int .i64 k) := lawQ.one.key ⟨_, keyQ hk⟩
  refine wpList_mapUpdate_in w hg m x v _ hop _ _ lawQ Try.underlying79 _ b n D hm h1 hn _ _ _ hx hv (keyQ hk) _ [] (plainElem_int Try.underlying3 (WalkArith.wf_i64 hu)) fun w' g1 g2 => hK w' ⟨h0, _, g1, ?_, fun j hj => ⟨?_, ?_⟩⟩ g2.grown
  · rw [Maps.size_put (h1.tidy lawQ), (h3 k hk).1, h2]
  · by_cases e : j = k
    · subst e
      rw [Maps.has_put_same h1.isMap hkl]
      simp
    · rw [Maps.has_put_other (litQ_ne e), (h3 j hj).1]
      simp [e]
  · by_cases e : j = k
    · subst e
      rw [Maps.atKey_put_same h1.isMap hkl]; dsimp only; rw [if_pos rfl]
    · rw [Maps.atKey_put_other (litQ_ne e), (h3 j hj).2]; dsimp only; rw [if_neg e]
end
end Go.Proofs.Ythainmbapikjiaa
