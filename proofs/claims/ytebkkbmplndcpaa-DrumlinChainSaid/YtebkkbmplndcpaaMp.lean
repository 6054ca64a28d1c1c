/- Maps from int to pointers of a call's own: which keys they have, and where what they hold lies. -/
import Derived.Test.YtebkkbmplndcpaaVals
import Derived.Test.YtebkkbmplndcpaaHush
import Derived.Test.YtebkkbmplndcpaaOpen
import Derived.Maps.OwnSet
import Derived.Maps.OwnOps
import Derived.Maps.RangeWalk
import Derived.WalkArith
import Derived.BigFrame
namespace Go.Proofs.Ytebkkbmplndcpaa
open Go.RowKit Go.Sort
open Go.Maps (Keyed int_keyed keyOf_int_mk)
set_option linter.unusedVariables false
set_option linter.unusedSimpArgs false
set_option maxRecDepth 100000

theorem lawP : Keyed Try.prog 3 := int_keyed Try.underlying3
theorem keyP {k : Int} (h : I64 k) : keyOf Try.prog 3 (.int .i64 k) = some (.int .i64 k) := keyOf_int_mk Try.underlying3 (WalkArith.wf_i64 h)
theorem litP_ne {k j : Int} (h : j ≠ k) : (Lit.int .i64 j) ≠ Lit.int .i64 k := by intro e; injection e with _ e; exact h e
/-- How a pointer reads: nil as 0, one to a block's head as the block and one. -/
def ptrE (v : Value) : Option (DataW Unit × List MemPlace) := match v with
  | .pointer none => some (.lit (.int .i64 0), [])
  | .pointer (some ⟨b, 0, none⟩) => some (.lit (.int .i64 ((b : Int) + 1)), [])
  | _ => none
def ptrV (x : Int) : Value := if x = 0 then .pointer none else .pointer (some ⟨(x - 1).toNat, 0, none⟩)
theorem ptrV_zero : ptrV 0 = .pointer none := rfl
theorem ptrV_to (b : Nat) : ptrV ((b : Int) + 1) = .pointer (some ⟨b, 0, none⟩) := by
  unfold ptrV
  rw [if_neg (by omega), show ((b : Int) + 1 - 1).toNat = b by omega]
theorem ptrE_to (b : Nat) : ptrE (.pointer (some ⟨b, 0, none⟩)) = some (.lit (.int .i64 ((b : Int) + 1)), []) := rfl
theorem ptrE_inv {v : Value} {y : DataW Unit × List MemPlace} (h : ptrE v = some y) : ∃ x, v = ptrV x ∧ y = (.lit (.int .i64 x), []) ∧ 0 ≤ x := by
  unfold ptrE at h
  split at h
  · cases h; exact ⟨0, rfl, rfl, Int.le_refl _⟩
  · rename_i b
    cases h; exact ⟨(b : Int) + 1, (ptrV_to b).symm, rfl, by omega⟩
  · cases h
abbrev OMapP (w : World) (b n : Nat) (D : DataW Unit) : Prop := w.ownsMap Try.prog 3 ptrE b n D
/-- What a map reads as: just these keys, these places, and 0 where there is none. -/
def ReadsM (D : DataW Unit) (p : Int → Bool) (F : Int → Int) : Prop := ∀ k, I64 k → Maps.has D (.int .i64 k) = p k ∧ D.atKey (.int .i64 k) (.lit (.int .i64 0)) = .lit (.int .i64 (F k))
def IsMp (B : Nat) (w : World) (b n : Nat) (p : Int → Bool) (F : Int → Int) : Prop := B ≤ b ∧ ∃ D : DataW Unit, OMapP w b n D ∧ ReadsM D p F
theorem belowP_grown {w w' : World} (h : Below w.heap.size w w') : w.grownBy w' none := ⟨h.os, h.tape, h.output, h.size, fun k hk _ => h.block k hk⟩
theorem IsMp.kept {B : Nat} {w w' : World} {b n : Nat} {p : Int → Bool} {F : Int → Int} {row : Option Nat} (h : IsMp B w b n p F) (hg : w.grownBy w' row) (hne : some b ≠ row) : IsMp B w' b n p F := by
  obtain ⟨h0, D, h1, h2⟩ := h
  exact ⟨h0, D, h1.kept hg hne, h2⟩
theorem IsMp.below {B : Nat} {w w' : World} {b n : Nat} {p : Int → Bool} {F : Int → Int} (h : IsMp B w b n p F) (hb : Below w.heap.size w w') : IsMp B w' b n p F := h.kept (belowP_grown hb) (by simp)
theorem IsMp.lt {B : Nat} {w : World} {b n : Nat} {p : Int → Bool} {F : Int → Int} (h : IsMp B w b n p F) : b < w.heap.size := by obtain ⟨_, D, h1, _⟩ := h; exact h1.lt
theorem IsMp.same {B : Nat} {w : World} {b n n' : Nat} {p p' : Int → Bool} {F F' : Int → Int} (h : IsMp B w b n p F) (hn : n ≤ n') (hp : ∀ k, I64 k → p k = p' k) (hF : ∀ k, I64 k → F k = F' k) : IsMp B w b n' p' F' := by
  obtain ⟨h0, D, h1, h3⟩ := h
  exact ⟨h0, D, h1.mono hn, fun k hk => ⟨(h3 k hk).1.trans (hp k hk), by rw [(h3 k hk).2, hF k hk]⟩⟩
/-- Such a map's block holds no cells. -/
theorem IsMp.ne {B : Nat} {w : World} {b n g : Nat} {p : Int → Bool} {F : Int → Int} (h : IsMp B w b n p F) {cs : Array Value} {t : TypeId} {fr : Nat × Nat} (hg : w.heap[g]? = some (.cells cs t fr)) : b ≠ g := by
  obtain ⟨_, D, ⟨es, cl, hb, _⟩, _⟩ := h
  rintro rfl
  rw [hb] at hg
  cases hg
theorem mp_new {B : Nat} (w : World) (hB : B ≤ w.heap.size) : IsMp B (w.alloc (.map #[] 0)) w.heap.size 0 (fun _ => false) (fun _ => 0) :=
  ⟨hB, _, World.ownsMap_made w Try.prog 3 _, fun k hk => ⟨rfl, rfl⟩⟩
section
variable {w : World} {ops : Array Oper} {rest : List Oper} {o : Oper} {a : Act} {Q : Exit → Act → World → Prop} {B b n : Nat}
theorem zeroP_ptr (w : World) : (zeroValue 54).run Try.prog w = .ok (.pointer none) w := by kernel_rfl
theorem wpList_mp_look {p : Int → Bool} {F : Int → Int} (hw : Region.wanted o (yielded ops a.tmps) = true) (m x : Operand) (hop : o.op = Op.lookup 56 m x false) (h : IsMp B w b n p F) (hm : a.eval m = .map (some b)) (k : Int) (hk : I64 k) (hx : a.eval x = .int .i64 k)
    (hK : wpList Try.prog ops Q rest (a.put o.dst (ptrV (F k))) w) : wpList Try.prog ops Q (o :: rest) a w := by
  obtain ⟨h0, D, h1, h3⟩ := h
  obtain ⟨v, ps, hrun, hv⟩ := h1.lookup lawP Try.underlying56 (zeroP_ptr w) (zd := .lit (.int .i64 0)) (zp := []) rfl (keyP hk)
  rw [(h3 k hk).2] at hv
  obtain ⟨z, rfl, e, _⟩ := ptrE_inv hv
  simp only [Prod.mk.injEq] at e
  obtain ⟨e, _⟩ := e
  injection e with e
  injection e with _ e
  subst e
  refine BigFrame.wpList_want hw fun K' hK' => ?_
  unfold Oper.wp
  simp [execOp, hop, hm, hx, hrun, Result.andThen]
  exact hK' _ _ hK
theorem wpList_mp_del {p : Int → Bool} {F : Int → Int} (hg : o.guard = none) (m x : Operand) (hop : o.op = Op.call { callee := Callee.builtin Builtin.delete, args := #[m, x], argTypes := #[56, 3] }) (h : IsMp B w b n p F) (hm : a.eval m = .map (some b)) (k : Int) (hk : I64 k) (hx : a.eval x = .int .i64 k)
    (hK : ∀ w', IsMp B w' b n (fun j => p j && !decide (j = k)) (fun j => if j = k then 0 else F j) → w.grownBy w' (some b) → wpList Try.prog ops Q rest (a.put o.dst (.tuple #[])) w') : wpList Try.prog ops Q (o :: rest) a w := by
  obtain ⟨h0, D, h1, h3⟩ := h
  refine wpList_delete_own w hg m x _ _ hop _ lawP Try.underlying56 _ b n D hm h1 _ _ hx (keyP hk) fun w' g1 g2 => hK w' ⟨h0, _, g1, fun j hj => ⟨?_, ?_⟩⟩ g2.grown
  · by_cases e : j = k
    · subst e
      rw [Maps.has_del_same]
      simp
    · rw [Maps.has_del_other (litP_ne e), (h3 j hj).1]
      simp [e]
  · by_cases e : j = k
    · subst e
      rw [Maps.atKey_del_same]
      simp
    · rw [Maps.atKey_del_other (litP_ne e), (h3 j hj).2]
      simp [e]
theorem wpList_mp_put {p : Int → Bool} {F : Int → Int} (hg : o.guard = none) (m x v : Operand) (hop : o.op = Op.mapUpdate 56 m x v) (h : IsMp B w b n p F) (hm : a.eval m = .map (some b)) (hn : n < maxLen) (k : Int) (hk : I64 k) (hx : a.eval x = .int .i64 k) (u : Nat) (hv : a.eval v = .pointer (some ⟨u, 0, none⟩))
    (hK : ∀ w', IsMp B w' b (n + 1) (fun j => decide (j = k) || p j) (fun j => if j = k then (u : Int) + 1 else F j) → w.grownBy w' (some b) → wpList Try.prog ops Q rest (a.put o.dst undef) w') : wpList Try.prog ops Q (o :: rest) a w := by
  obtain ⟨h0, D, h1, h3⟩ := h
  have hkl : WideAt.IsKeyLit (.int .i64 k) := lawP.one.key ⟨_, keyP hk⟩
  refine wpList_mapUpdate_in w hg m x v _ hop _ _ lawP Try.underlying56 _ b n D hm h1 hn _ _ _ hx hv (keyP hk) _ [] (ptrE_to u) fun w' g1 g2 => hK w' ⟨h0, _, g1, fun j hj => ⟨?_, ?_⟩⟩ g2.grown
  · by_cases e : j = k
    · subst e
      rw [Maps.has_put_same h1.isMap hkl]
      simp
    · rw [Maps.has_put_other (litP_ne e), (h3 j hj).1]
      simp [e]
  · by_cases e : j = k
    · subst e
      rw [Maps.atKey_put_same h1.isMap hkl]; dsimp only; rw [if_pos rfl]
    · rw [Maps.atKey_put_other (litP_ne e), (h3 j hj).2]; dsimp only; rw [if_neg e]
/-- A map literal's pair. -/
theorem wpList_mp_ins {p : Int → Bool} {F : Int → Int} (hg : o.guard = none) (m x v : Operand) (hop : o.op = Op.insert 56 m x v) (h : IsMp B w b n p F) (hm : a.eval m = .map (some b)) (hn : n < maxLen) (k : Int) (hk : I64 k) (hx : a.eval x = .int .i64 k) (u : Nat) (hv : a.eval v = .pointer (some ⟨u, 0, none⟩))
    (hK : ∀ w', IsMp B w' b (n + 1) (fun j => decide (j = k) || p j) (fun j => if j = k then (u : Int) + 1 else F j) → w.grownBy w' (some b) → wpList Try.prog ops Q rest (a.put o.dst undef) w') : wpList Try.prog ops Q (o :: rest) a w := by
  obtain ⟨h0, D, h1, h3⟩ := h
  have hkl : WideAt.IsKeyLit (.int .i64 k) := lawP.one.key ⟨_, keyP hk⟩
  refine wpList_plain hg fun K' hK' => ?_
  obtain ⟨w', hrun, g1, g2⟩ := h1.store lawP Try.underlying56 hn (keyP hk) (ptrE_to u)
  unfold Oper.wp
  simp [execOp, hop, hm, hx, hv, hrun, Result.andThen]
  refine hK' _ _ (hK w' ⟨h0, _, g1, fun j hj => ⟨?_, ?_⟩⟩ g2.grown)
  · by_cases e : j = k
    · subst e
      rw [Maps.has_put_same h1.isMap hkl]
      simp
    · rw [Maps.has_put_other (litP_ne e), (h3 j hj).1]
      simp [e]
  · by_cases e : j = k
    · subst e
      rw [Maps.atKey_put_same h1.isMap hkl]; dsimp only; rw [if_pos rfl]
    · rw [Maps.atKey_put_other (litP_ne e), (h3 j hj).2]; dsimp only; rw [if_neg e]
/-- 'range' over it: one entry after the other, each with a key and a place of the map's. -/
theorem wpList_mp_next (hg : o.guard = none) (it : Operand) (hop : o.op = Op.next it false) {p : Int → Bool} {F : Int → Int} (r : Nat) (D : DataW Unit) (left : Lit → Bool) (cnt : Nat)
    (hit : a.eval it = .pointer (some ⟨r, 0, none⟩)) (h : w.ranges Try.prog 3 ptrE b r n D left cnt)
    (hDone : cnt = 0 → (∀ kl, left kl = false) → wpList Try.prog ops Q rest (a.put o.dst (.tuple #[.bool false])) w)
    (hMore : ∀ (x z : Int) (w' : World) (cnt' : Nat), I64 x → left (.int .i64 x) = true → D.atKey (.int .i64 x) (.lit (.int .i64 0)) = .lit (.int .i64 z) → w'.ranges Try.prog 3 ptrE b r n D (fun l => left l && !l.sameKey (.int .i64 x)) cnt' → cnt' < cnt →
      w.grownBy w' (some r) → w'.heap.size = w.heap.size → (Instr.entry (.pointer (some ⟨r, 0, none⟩))).run Try.prog w' = .ok (.tuple #[.int .i64 x, ptrV z]) w' → wpList Try.prog ops Q rest (a.put o.dst (.tuple #[.bool true, .int .i64 x, ptrV z])) w') :
    wpList Try.prog ops Q (o :: rest) a w :=
  wpList_next_ranges w hg it hop 3 lawP ptrE (Value.int .i64) ptrV (fun key kl hkey => by obtain ⟨x, rfl, _⟩ := Maps.keyOf_int_inv Try.underlying3 hkey; exact ⟨x, rfl⟩) (fun v y hv => by obtain ⟨c, rfl, _⟩ := ptrE_inv hv; exact ⟨c, rfl⟩)
    b r n D left cnt hit h hDone (fun x c kl y w' cnt' hkey hlk hv hat hrg hlt hgr hsz hen => by
      obtain ⟨x', ex, rfl, hwx⟩ := Maps.keyOf_int_inv Try.underlying3 hkey
      cases ex
      obtain ⟨c', ec, rfl, hc0⟩ := ptrE_inv hv
      have hcc : ptrV c = ptrV c' := ec
      rw [hcc] at hen ⊢
      exact hMore x c' w' cnt' (i64_of_wf hwx) hlk (hat _) hrg hlt hgr hsz hen)
end
end Go.Proofs.Ytebkkbmplndcpaa
