/- Slices of structs of numbers: what they hold, as lists of rows. -/
import Derived.Test.YtcpbffmffoneeaaDoorHush
import Derived.Laws.AppendOwnNone
import Derived.Laws.OwnMore
namespace Go.Proofs.YtcpbffmffoneeaaDoor
open Go.RowKit
set_option linter.unusedVariables false
set_option maxRecDepth 100000

/-- The cells of rows of numbers. -/
def flatV (l : List (List Int)) : List Value := l.flatMap fun p => p.map (Value.int .i64)
theorem flatV_append (l l' : List (List Int)) : flatV (l ++ l') = flatV l ++ flatV l' := by unfold flatV; rw [List.flatMap_append]
theorem flatV_length {k : Nat} : ∀ {l : List (List Int)}, (∀ p ∈ l, p.length = k) → (flatV l).length = l.length * k
  | [], _ => by simp [flatV]
  | p :: l, h => by
    have ih := flatV_length (k := k) (l := l) fun q hq => h q (by simp [hq])
    have e : flatV (p :: l) = p.map (Value.int .i64) ++ flatV l := rfl
    rw [e, List.length_append, List.length_map, ih, h p (by simp), List.length_cons, Nat.succ_mul, Nat.add_comm]
theorem flatV_get {k : Nat} : ∀ {l : List (List Int)} (j i : Nat), (∀ p ∈ l, p.length = k) → j < l.length → i < k → (flatV l)[j * k + i]? = some (.int .i64 ((l[j]?.getD [])[i]?.getD 0))
  | [], j, i, _, hj, _ => by simp at hj
  | p :: l, 0, i, h, _, hi => by
    have e : flatV (p :: l) = p.map (Value.int .i64) ++ flatV l := rfl
    have hp := h p (by simp)
    rw [e, List.getElem?_append_left (by rw [List.length_map]; omega), List.getElem?_map]
    simp [List.getElem?_eq_getElem (show i < p.length by omega)]
  | p :: l, j + 1, i, h, hj, hi => by
    have ih := flatV_get (k := k) (l := l) j i (fun q hq => h q (by simp [hq])) (by simpa using hj) hi
    have e : flatV (p :: l) = p.map (Value.int .i64) ++ flatV l := rfl
    have hp := h p (by simp)
    rw [e, List.getElem?_append_right (by rw [List.length_map, hp, Nat.succ_mul]; omega), List.length_map, hp]
    have e2 : (j + 1) * k + i - k = j * k + i := by rw [Nat.succ_mul]; omega
    rw [e2, ih]
    simp
theorem flatV_one (l : List (List Int)) : ∀ u ∈ flatV l, u.oneCell' = true := by
  intro u hu
  unfold flatV at hu
  rw [List.mem_flatMap] at hu
  obtain ⟨p, _, hu⟩ := hu
  rw [List.mem_map] at hu
  obtain ⟨x, _, rfl⟩ := hu
  rfl
/-- A slice of rows that is the call's own. -/
def OwnsR (B : Nat) (w : World) (e : TypeId) (k : Nat) (v : Value) (l : List (List Int)) : Prop := (∀ p ∈ l, p.length = k) ∧ w.ownsRow B e k v l.length (flatV l)
theorem OwnsR.nil (B : Nat) (w : World) (e : TypeId) (k : Nat) : OwnsR B w e k (.slice none 0 0) [] := ⟨by simp, by simp [flatV], .inl ⟨rfl, rfl⟩⟩
/-- A slice that a literal made. -/
theorem OwnsR.new {B : Nat} {w : World} {e : TypeId} {k : Nat} {l : List (List Int)} (hl : ∀ p ∈ l, p.length = k) (hB : B ≤ w.heap.size) (hm : l.length ≤ maxLen) {cs : Array Value} (hcs : cs.toList = flatV l) :
    OwnsR B (w.alloc (.cells cs e)) e k (.slice (some ⟨w.heap.size, 0, none⟩) l.length l.length) l := by
  have hsz : cs.size = l.length * k := by rw [← Array.length_toList, hcs, flatV_length hl]
  refine ⟨hl, flatV_length hl, .inr ⟨w.heap.size, l.length, cs, rfl, hB, heap_alloc_new w _, Nat.le_refl _, hm, hsz, ?_⟩⟩
  rw [hcs, List.take_of_length_le (by rw [flatV_length hl]; exact Nat.le_refl _)]
theorem OwnsR.kept {B : Nat} {w w' : World} {e : TypeId} {k : Nat} {v : Value} {l : List (List Int)} (h : OwnsR B w e k v l) {row : Option Nat} (hg : w.grownBy w' row) (hne : v.ownBlock = none ∨ v.ownBlock ≠ row) : OwnsR B w' e k v l := ⟨h.1, h.2.kept hg hne⟩
theorem OwnsR.alloc {B : Nat} {w : World} {e : TypeId} {k : Nat} {v : Value} {l : List (List Int)} (h : OwnsR B w e k v l) (o : Obj) : OwnsR B (w.alloc o) e k v l := ⟨h.1, h.2.alloc o⟩
theorem OwnsR.head {B : Nat} {w : World} {e : TypeId} {k : Nat} {v : Value} {l : List (List Int)} (h : OwnsR B w e k v l) :
    (v = .slice none 0 0 ∧ l = []) ∨ ∃ g cap, v = .slice (some ⟨g, 0, none⟩) l.length cap ∧ B ≤ g ∧ g < w.heap.size ∧ l.length ≤ cap ∧ cap ≤ maxLen ∧ ∀ j i, j < l.length → i < k → w.cell? ⟨g, j * k + i, none⟩ = some (.int .i64 ((l[j]?.getD [])[i]?.getD 0)) := by
  obtain ⟨h0, h1, ⟨rfl, h2⟩ | ⟨g, cap, cur, rfl, hb, hg, hc, hm, hsz, ht⟩⟩ := h
  · exact .inl ⟨rfl, List.eq_nil_of_length_eq_zero h2⟩
  · refine .inr ⟨g, cap, rfl, hb, (Array.getElem?_eq_some_iff.1 hg).1, hc, hm, fun j i hj hi => ?_⟩
    have e1 := flatV_get (k := k) (l := l) j i h0 hj hi
    have hlt : j * k + i < l.length * k := by
      have : (j + 1) * k ≤ l.length * k := Nat.mul_le_mul_right k hj
      rw [Nat.succ_mul] at this; omega
    unfold World.cell?
    rw [hg]
    rw [← ht, List.getElem?_take, if_pos hlt] at e1
    simpa using e1
/-- Behind a call that keeps what was there. -/
theorem OwnsR.below {B : Nat} {w w' : World} {e : TypeId} {k : Nat} {v : Value} {l : List (List Int)} (h : OwnsR B w e k v l) (b : Below w.heap.size w w') : OwnsR B w' e k v l := by
  obtain ⟨h0, h1, ⟨rfl, h2⟩ | ⟨g, cap, cur, rfl, hb, hg, hc, hm, hsz, ht⟩⟩ := h
  · exact ⟨h0, h1, .inl ⟨rfl, h2⟩⟩
  · exact ⟨h0, h1, .inr ⟨g, cap, cur, rfl, hb, (b.block g (Array.getElem?_eq_some_iff.1 hg).1).trans hg, hc, hm, hsz, ht⟩⟩
/-- append of a literal of rows. -/
theorem wpList_append_rows {P : Program} {w : World} {ops : Array Oper} {rest : List Oper} {o : Oper} {a : Act} {Q : Exit → Act → World → Prop} (hgd : o.guard = none) (s x : Operand) (t : TypeId)
    (ho : o.op = .call { callee := .builtin .append, args := #[s, x], argTypes := #[t, t] }) (B : Nat) (e : TypeId) (z : Value) (k bytes : Nat) (ht : P.underlying t = some (.slice e))
    (hinfo : (P.info? e).map (fun i => (i.zero, i.size, i.bytes)) = some (some z, k, bytes)) (hzs : z.cells.size = k) (hk : 0 < k) (v : Value) (l : List (List Int)) (hs : a.eval s = v) (hown : OwnsR B w e k v l)
    (g c : Nat) (m : List (List Int)) (hm : ∀ p ∈ m, p.length = k) (hx : a.eval x = .slice (some ⟨g, 0, none⟩) m.length c) (hcell : ∀ j u, (flatV m)[j]? = some u → w.cell? ⟨g, j, none⟩ = some u)
    (h63 : (l.length + m.length) * bytes ≤ 140737488355328) (h64 : l.length + m.length ≤ maxLen) (hB : B ≤ w.heap.size)
    (h : ∀ v' w', OwnsR B w' e k v' (l ++ m) → w.grownBy w' v.ownBlock → wpList P ops Q rest (a.put o.dst v') w') : wpList P ops Q (o :: rest) a w := by
  obtain ⟨i0, hi, hz0, hz1, hz2⟩ := info_parts hinfo
  refine wpList_append_own w hgd s x t ho B e i0 z k bytes ht hi hz0 hz1 hz2 hzs hk v l.length (flatV l) hs hown.2 ⟨g, 0, none⟩ m.length c (flatV m) hx (flatV_length hm) ?_ (flatV_one m) h64 h63 hB ?_
  · intro j u hu
    have hadd : (⟨g, 0, none⟩ : Addr).add j = ⟨g, j, none⟩ := by unfold Addr.add; split <;> simp_all
    rw [hadd]
    exact hcell j u hu
  · intro v' w' h1 h2 _
    refine h v' w' ⟨?_, ?_⟩ h2
    · intro p hp
      rcases List.mem_append.1 hp with hp | hp
      · exact hown.1 p hp
      · exact hm p hp
    · rw [flatV_append, List.length_append]; exact h1
theorem flatV_set {k : Nat} : ∀ {l : List (List Int)} (j i : Nat) (x : Int) (r : List Int), (∀ p ∈ l, p.length = k) → l[j]? = some r → i < k → flatV (l.set j (r.set i x)) = (flatV l).set (j * k + i) (.int .i64 x)
  | [], j, i, x, r, _, hj, _ => by simp at hj
  | p :: l, 0, i, x, r, h, hj, hi => by
    have e : flatV (p :: l) = p.map (Value.int .i64) ++ flatV l := rfl
    have hp := h p (by simp)
    simp only [List.getElem?_cons_zero, Option.some.injEq] at hj
    subst hj
    have e2 : flatV ((p :: l).set 0 (p.set i x)) = (p.set i x).map (Value.int .i64) ++ flatV l := rfl
    rw [e, e2, Nat.zero_mul, Nat.zero_add, List.set_append_left _ _ (by rw [List.length_map]; omega), List.map_set]
  | p :: l, j + 1, i, x, r, h, hj, hi => by
    have ih := flatV_set (k := k) (l := l) j i x r (fun q hq => h q (by simp [hq])) (by simpa using hj) hi
    have e : flatV (p :: l) = p.map (Value.int .i64) ++ flatV l := rfl
    have e2 : flatV ((p :: l).set (j + 1) (r.set i x)) = p.map (Value.int .i64) ++ flatV (l.set j (r.set i x)) := rfl
    have hp := h p (by simp)
    rw [e, e2, ih, List.set_append_right _ _ (by rw [List.length_map, hp, Nat.succ_mul]; omega), List.length_map, hp]
    congr 2
    rw [Nat.succ_mul]; omega
/-- A number of a row stored. -/
theorem OwnsR.stored {B : Nat} {w : World} {e : TypeId} {k g cap : Nat} {l : List (List Int)} (h : OwnsR B w e k (.slice (some ⟨g, 0, none⟩) l.length cap) l) {j i : Nat} {r : List Int} (hj : l[j]? = some r) (hi : i < k) (x : Int) :
    OwnsR B (w.setCell ⟨g, j * k + i, none⟩ (.int .i64 x)) e k (.slice (some ⟨g, 0, none⟩) l.length cap) (l.set j (r.set i x)) ∧ w.grownBy (w.setCell ⟨g, j * k + i, none⟩ (.int .i64 x)) (some g) := by
  have hs := h.2.stored (j * k + i) (.int .i64 x)
  refine ⟨⟨?_, ?_⟩, hs.2⟩
  · intro p hp
    rcases List.mem_or_eq_of_mem_set hp with hp | rfl
    · exact h.1 p hp
    · rw [List.length_set]; exact h.1 r (List.mem_of_getElem? hj)
  · rw [List.length_set, flatV_set j i x r h.1 hj hi]
    exact hs.1
theorem OwnsR.frozen {B : Nat} {w : World} {e : TypeId} {k g cap : Nat} {l : List (List Int)} (h : OwnsR B w e k (.slice (some ⟨g, 0, none⟩) l.length cap) l) (j : Nat) : w.frozen? ⟨g, j, none⟩ = false := h.2.frozenAt j
end Go.Proofs.YtcpbffmffoneeaaDoor
