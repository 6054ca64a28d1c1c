/- Maps from int to uint32 of a call's own: which keys they have, and what they hold. -/
import Derived.Test.YtpmfkamagdifgaaMap3
import Derived.Maps.OwnSet
import Derived.WalkArith
import Derived.BigFrame
namespace Go.Proofs.Ytpmfkamagdifgaa
open Go.RowKit Go.Sort
open Go.Maps (Keyed int_keyed keyOf_int_mk)
set_option linter.unusedVariables false
set_option linter.unusedSimpArgs false
set_option maxRecDepth 100000

theorem lawI : Keyed Try.prog 3 := int_keyed Try.underlying3
theorem zeroE32 (w : World) : (zeroValue 26).run Try.prog w = .ok (.int .u32 0) w := by kernel_rfl
theorem keyI {k : Int} (h : I64 k) : keyOf Try.prog 3 (.int .i64 k) = some (.int .i64 k) := keyOf_int_mk Try.underlying3 (WalkArith.wf_i64 h)
theorem wf_u32 {u : Int} (h : 0 ≤ u ∧ u < 4294967296) : (Lit.int .u32 u).wf = true := by
  simp [Lit.wf, IntKind.min, IntKind.max, IntKind.signed, IntKind.bits]
  omega
theorem lit_ne {k j : Int} (h : j ≠ k) : (Lit.int .i64 j) ≠ Lit.int .i64 k := by intro e; injection e with _ e; exact h e
abbrev OMap (w : World) (b n : Nat) (D : DataW Unit) : Prop := w.ownsMap Try.prog 3 (plainElem Try.prog 26) b n D
/-- Block b is a map of sz entries, which has just the keys that are so. -/
def IsHeld (B : Nat) (w : World) (b n sz : Nat) (p : Int → Bool) : Prop := B ≤ b ∧ ∃ D : DataW Unit, OMap w b n D ∧ Maps.size D = sz ∧ ∀ k, I64 k → Maps.has D (.int .i64 k) = p k
/-- Block b is a map that holds these numbers, and 0 where it holds none. -/
def IsLast (B : Nat) (w : World) (b n : Nat) (F : Int → Int) : Prop := B ≤ b ∧ ∃ D : DataW Unit, OMap w b n D ∧ ∀ k, I64 k → D.atKey (.int .i64 k) (.lit (.int .u32 0)) = .lit (.int .u32 (F k))
theorem below_grown_none {w w' : World} (h : Below w.heap.size w w') : w.grownBy w' none := ⟨h.os, h.tape, h.output, h.size, fun k hk _ => h.block k hk⟩
theorem IsHeld.kept {B : Nat} {w w' : World} {b n sz : Nat} {p : Int → Bool} {row : Option Nat} (h : IsHeld B w b n sz p) (hg : w.grownBy w' row) (hne : some b ≠ row) : IsHeld B w' b n sz p := by
  obtain ⟨h0, D, h1, h2, h3⟩ := h
  exact ⟨h0, D, h1.kept hg hne, h2, h3⟩
theorem IsHeld.below {B : Nat} {w w' : World} {b n sz : Nat} {p : Int → Bool} (h : IsHeld B w b n sz p) (hb : Below w.heap.size w w') : IsHeld B w' b n sz p := h.kept (below_grown_none hb) (by simp)
theorem IsHeld.lt {B : Nat} {w : World} {b n sz : Nat} {p : Int → Bool} (h : IsHeld B w b n sz p) : b < w.heap.size := by obtain ⟨_, D, h1, _⟩ := h; exact h1.lt
theorem IsHeld.same {B : Nat} {w : World} {b n sz sz' : Nat} {p p' : Int → Bool} (h : IsHeld B w b n sz p) (hs : sz = sz') (hp : ∀ k, I64 k → p k = p' k) : IsHeld B w b n sz' p' := by
  obtain ⟨h0, D, h1, h2, h3⟩ := h
  exact ⟨h0, D, h1, h2.trans hs, fun k hk => (h3 k hk).trans (hp k hk)⟩
theorem IsLast.kept {B : Nat} {w w' : World} {b n : Nat} {F : Int → Int} {row : Option Nat} (h : IsLast B w b n F) (hg : w.grownBy w' row) (hne : some b ≠ row) : IsLast B w' b n F := by
  obtain ⟨h0, D, h1, h3⟩ := h
  exact ⟨h0, D, h1.kept hg hne, h3⟩
theorem IsLast.below {B : Nat} {w w' : World} {b n : Nat} {F : Int → Int} (h : IsLast B w b n F) (hb : Below w.heap.size w w') : IsLast B w' b n F := h.kept (below_grown_none hb) (by simp)
theorem IsLast.lt {B : Nat} {w : World} {b n : Nat} {F : Int → Int} (h : IsLast B w b n F) : b < w.heap.size := by obtain ⟨_, D, h1, _⟩ := h; exact h1.lt
theorem IsLast.same {B : Nat} {w : World} {b n : Nat} {F F' : Int → Int} (h : IsLast B w b n F) (hp : ∀ k, I64 k → F k = F' k) : IsLast B w b n F' := by
  obtain ⟨h0, D, h1, h3⟩ := h
  exact ⟨h0, D, h1, fun k hk => by rw [h3 k hk, hp k hk]⟩
theorem IsHeld.mono {B : Nat} {w : World} {b n n' sz : Nat} {p : Int → Bool} (h : IsHeld B w b n sz p) (hn : n ≤ n') : IsHeld B w b n' sz p := by
  obtain ⟨h0, D, h1, h2, h3⟩ := h
  exact ⟨h0, D, h1.mono hn, h2, h3⟩
theorem IsLast.mono {B : Nat} {w : World} {b n n' : Nat} {F : Int → Int} (h : IsLast B w b n F) (hn : n ≤ n') : IsLast B w b n' F := by
  obtain ⟨h0, D, h1, h3⟩ := h
  exact ⟨h0, D, h1.mono hn, h3⟩
/-- Such a map and a row of the inode map's lie apart. -/
theorem IsHeld.ne {B B' : Nat} {w : World} {b n sz g gs : Nat} {p : Int → Bool} {sl : List SlotD} (h : IsHeld B w b n sz p) (hm : IsMap B' w g gs sl) : some b ≠ some gs := by
  obtain ⟨_, D, ⟨es, cl, hb, _⟩, _⟩ := h
  intro e
  obtain rfl := Option.some.inj e
  obtain ⟨_, _, ⟨h1, _⟩ | ⟨g', cap, cur, h1, _, hg', _⟩⟩ := hm.2.1
  · cases h1
  · obtain ⟨h1, _⟩ := Value.slice.inj h1
    have h2 : b = g' := by simpa using h1
    rw [← h2, hb] at hg'
    cases hg'
theorem IsLast.ne {B B' : Nat} {w : World} {b n g gs : Nat} {F : Int → Int} {sl : List SlotD} (h : IsLast B w b n F) (hm : IsMap B' w g gs sl) : some b ≠ some gs := by
  obtain ⟨_, D, ⟨es, cl, hb, _⟩, _⟩ := h
  intro e
  obtain rfl := Option.some.inj e
  obtain ⟨_, _, ⟨h1, _⟩ | ⟨g', cap, cur, h1, _, hg', _⟩⟩ := hm.2.1
  · cases h1
  · obtain ⟨h1, _⟩ := Value.slice.inj h1
    have h2 : b = g' := by simpa using h1
    rw [← h2, hb] at hg'
    cases hg'
/-- The inode map is kept where a map turned. -/
theorem IsMap.keptM {B : Nat} {w w' : World} {g gs b : Nat} {sl : List SlotD} (h : IsMap B w g gs sl) (hg : w.grownBy w' (some b)) (hne : b ≠ g) (hne2 : b ≠ gs) : IsMap B w' g gs sl :=
  ⟨(hg.block g (map_lt h).1 (by simpa using Ne.symm hne)).trans h.1, h.2.1.kept hg (.inr (by show some gs ≠ some b; simpa using Ne.symm hne2)), h.2.2⟩
theorem IsHeld.ne2 {B B' : Nat} {w : World} {b n sz g gs : Nat} {p : Int → Bool} {sl : List SlotD} (h : IsHeld B w b n sz p) (hm : IsMap B' w g gs sl) : b ≠ g ∧ b ≠ gs := by
  refine ⟨?_, fun e => h.ne hm (by rw [e])⟩
  obtain ⟨_, D, ⟨es, cl, hb, _⟩, _⟩ := h
  rintro rfl
  have := hm.1
  rw [hb] at this
  cases this
theorem IsLast.ne2 {B B' : Nat} {w : World} {b n g gs : Nat} {F : Int → Int} {sl : List SlotD} (h : IsLast B w b n F) (hm : IsMap B' w g gs sl) : b ≠ g ∧ b ≠ gs := by
  refine ⟨?_, fun e => h.ne hm (by rw [e])⟩
  obtain ⟨_, D, ⟨es, cl, hb, _⟩, _⟩ := h
  rintro rfl
  have := hm.1
  rw [hb] at this
  cases this
theorem held_new {B : Nat} (w : World) (hB : B ≤ w.heap.size) : IsHeld B (w.alloc (.map #[] 0)) w.heap.size 0 0 (fun _ => false) :=
  ⟨hB, _, World.ownsMap_made w Try.prog 3 _, rfl, fun k hk => rfl⟩
theorem last_new {B : Nat} (w : World) (hB : B ≤ w.heap.size) : IsLast B (w.alloc (.map #[] 0)) w.heap.size 0 (fun _ => 0) :=
  ⟨hB, _, World.ownsMap_made w Try.prog 3 _, fun k hk => rfl⟩

section
variable {w : World} {ops : Array Oper} {rest : List Oper} {o : Oper} {a : Act} {Q : Exit → Act → World → Prop} {B b n sz : Nat}
theorem wpList_held_look {p : Int → Bool} (hg : o.guard = none) (m x : Operand) (hop : o.op = Op.lookup 93 m x true) (h : IsHeld B w b n sz p) (hm : a.eval m = .map (some b)) (k : Int) (hk : I64 k) (hx : a.eval x = .int .i64 k)
    (hK : ∀ c : Int, wpList Try.prog ops Q rest (a.put o.dst (.tuple #[.int .u32 c, .bool (p k)])) w) : wpList Try.prog ops Q (o :: rest) a w := by
  obtain ⟨_, D, h1, _, h3⟩ := h
  refine wpList_lookup_own_ok_int w hg m x _ hop _ _ .u32 lawI Try.underlying93 Try.underlying26 (zeroE32 _) b n D hm h1 _ _ hx (keyI hk) fun c _ _ => ?_
  rw [h3 k hk]
  exact hK c
theorem wpList_held_del {p : Int → Bool} (hg : o.guard = none) (m x : Operand) (hop : o.op = Op.call { callee := Callee.builtin Builtin.delete, args := #[m, x], argTypes := #[93, 3] }) (h : IsHeld B w b n sz p) (hm : a.eval m = .map (some b)) (k : Int) (hk : I64 k) (hx : a.eval x = .int .i64 k)
    (hK : ∀ w', IsHeld B w' b n (if p k then sz - 1 else sz) (fun j => p j && !decide (j = k)) → w.grownBy w' (some b) → wpList Try.prog ops Q rest (a.put o.dst (.tuple #[])) w') : wpList Try.prog ops Q (o :: rest) a w := by
  obtain ⟨h0, D, h1, h2, h3⟩ := h
  refine wpList_delete_own w hg m x _ _ hop _ lawI Try.underlying93 _ b n D hm h1 _ _ hx (keyI hk) fun w' g1 g2 => hK w' ⟨h0, _, g1, ?_, fun j hj => ?_⟩ g2.grown
  · have hs := Maps.size_del (h1.tidy lawI) (k := .int .i64 k)
    rw [h3 k hk, h2] at hs
    cases hp : p k
    · rw [hp] at hs; simpa using hs
    · rw [hp] at hs; simp at hs ⊢; omega
  · by_cases e : j = k
    · subst e
      rw [Maps.has_del_same]
      simp
    · rw [Maps.has_del_other (lit_ne e), h3 j hj]
      simp [e]
theorem wpList_held_len {p : Int → Bool} (hw : Region.wanted o (yielded ops a.tmps) = true) (m : Operand) (hop : o.op = Op.call { callee := Callee.builtin Builtin.len, args := #[m], argTypes := #[93] }) (h : IsHeld B w b n sz p) (hm : a.eval m = .map (some b))
    (hK : wpList Try.prog ops Q rest (a.put o.dst (.int .i64 (sz : Nat))) w) : wpList Try.prog ops Q (o :: rest) a w := by
  obtain ⟨h0, D, h1, h2, h3⟩ := h
  refine BigFrame.wpList_want hw fun K' hK' => ?_
  unfold Oper.wp
  simp [execOp, hop, resolve, invoke, builtin, hm, h1.len Try.underlying93 o.type, Result.andThen]
  rw [h2]
  exact hK' _ _ hK
theorem wpList_held_put {p : Int → Bool} (hg : o.guard = none) (m x v : Operand) (hop : o.op = Op.mapUpdate 93 m x v) (h : IsHeld B w b n sz p) (hm : a.eval m = .map (some b)) (hn : n < maxLen) (k : Int) (hk : I64 k) (hx : a.eval x = .int .i64 k) (u : Int) (hu : 0 ≤ u ∧ u < 4294967296) (hv : a.eval v = .int .u32 u)
    (hK : ∀ w', IsHeld B w' b (n + 1) (if p k then sz else sz + 1) (fun j => decide (j = k) || p j) → w.grownBy w' (some b) → wpList Try.prog ops Q rest (a.put o.dst undef) w') : wpList Try.prog ops Q (o :: rest) a w := by
  obtain ⟨h0, D, h1, h2, h3⟩ := h
  have hkl : WideAt.IsKeyLit (.int .i64 k) := lawI.one.key ⟨_, keyI hk⟩
  refine wpList_mapUpdate_in w hg m x v _ hop _ _ lawI Try.underlying93 _ b n D hm h1 hn _ _ _ hx hv (keyI hk) _ [] (plainElem_int Try.underlying26 (wf_u32 hu)) fun w' g1 g2 => hK w' ⟨h0, _, g1, ?_, fun j hj => ?_⟩ g2.grown
  · rw [Maps.size_put (h1.tidy lawI), h3 k hk, h2]
  · by_cases e : j = k
    · subst e
      rw [Maps.has_put_same h1.isMap hkl]
      simp
    · rw [Maps.has_put_other (lit_ne e), h3 j hj]
      simp [e]
theorem wpList_last_look {F : Int → Int} (hw : Region.wanted o (yielded ops a.tmps) = true) (m x : Operand) (hop : o.op = Op.lookup 93 m x false) (h : IsLast B w b n F) (hm : a.eval m = .map (some b)) (k : Int) (hk : I64 k) (hx : a.eval x = .int .i64 k)
    (hK : wpList Try.prog ops Q rest (a.put o.dst (.int .u32 (F k))) w) : wpList Try.prog ops Q (o :: rest) a w := by
  obtain ⟨h0, D, h1, h3⟩ := h
  obtain ⟨c, hrun, hc, _⟩ := h1.lookup_int lawI Try.underlying93 Try.underlying26 (zeroE32 _) (keyI hk)
  rw [h3 k hk] at hc
  injection hc with hc
  injection hc with _ hc
  subst hc
  refine BigFrame.wpList_want hw fun K' hK' => ?_
  unfold Oper.wp
  simp [execOp, hop, hm, hx, hrun, Result.andThen]
  exact hK' _ _ hK
theorem wpList_last_put {F : Int → Int} (hg : o.guard = none) (m x v : Operand) (hop : o.op = Op.mapUpdate 93 m x v) (h : IsLast B w b n F) (hm : a.eval m = .map (some b)) (hn : n < maxLen) (k : Int) (hk : I64 k) (hx : a.eval x = .int .i64 k) (u : Int) (hu : 0 ≤ u ∧ u < 4294967296) (hv : a.eval v = .int .u32 u)
    (hK : ∀ w', IsLast B w' b (n + 1) (fun j => if j = k then u else F j) → w.grownBy w' (some b) → wpList Try.prog ops Q rest (a.put o.dst undef) w') : wpList Try.prog ops Q (o :: rest) a w := by
  obtain ⟨h0, D, h1, h3⟩ := h
  have hkl : WideAt.IsKeyLit (.int .i64 k) := lawI.one.key ⟨_, keyI hk⟩
  refine wpList_mapUpdate_in w hg m x v _ hop _ _ lawI Try.underlying93 _ b n D hm h1 hn _ _ _ hx hv (keyI hk) _ [] (plainElem_int Try.underlying26 (wf_u32 hu)) fun w' g1 g2 => hK w' ⟨h0, _, g1, fun j hj => ?_⟩ g2.grown
  by_cases e : j = k
  · subst e
    rw [Maps.atKey_put_same h1.isMap hkl]; dsimp only; rw [if_pos rfl]
  · rw [Maps.atKey_put_other (lit_ne e), h3 j hj]; dsimp only; rw [if_neg e]
end
end Go.Proofs.Ytpmfkamagdifgaa
