/- Slices of structs of whatever cells: what they hold, as lists of rows of values. -/
import Derived.Test.YtebgejoemlgggaaDoorVals
import Derived.Test.YtebgejoemlgggaaDoorHush
namespace Go.Proofs.YtebgejoemlgggaaDoor
open Go.RowKit
set_option linter.unusedVariables false
set_option maxRecDepth 100000

/-- The cells of rows. -/
def flatR (l : List (List Value)) : List Value := l.flatMap fun p => p
theorem flatR_append (l l' : List (List Value)) : flatR (l ++ l') = flatR l ++ flatR l' := by unfold flatR; rw [List.flatMap_append]
theorem flatR_length {k : Nat} : ∀ {l : List (List Value)}, (∀ p ∈ l, p.length = k) → (flatR l).length = l.length * k
  | [], _ => by simp [flatR]
  | p :: l, h => by
    have ih := flatR_length (k := k) (l := l) fun q hq => h q (by simp [hq])
    have e : flatR (p :: l) = p ++ flatR l := rfl
    rw [e, List.length_append, ih, h p (by simp), List.length_cons, Nat.succ_mul, Nat.add_comm]
theorem flatR_get {k : Nat} : ∀ {l : List (List Value)} {j i : Nat} {r : List Value}, (∀ p ∈ l, p.length = k) → l[j]? = some r → i < k → (flatR l)[j * k + i]? = r[i]?
  | [], j, i, r, _, hj, _ => by simp at hj
  | p :: l, 0, i, r, h, hj, hi => by
    have e : flatR (p :: l) = p ++ flatR l := rfl
    have hp := h p (by simp)
    simp only [List.getElem?_cons_zero, Option.some.injEq] at hj
    subst hj
    rw [e, Nat.zero_mul, Nat.zero_add, List.getElem?_append_left (by omega)]
  | p :: l, j + 1, i, r, h, hj, hi => by
    have ih := flatR_get (k := k) (l := l) (j := j) (i := i) (r := r) (fun q hq => h q (by simp [hq])) (by simpa using hj) hi
    have e : flatR (p :: l) = p ++ flatR l := rfl
    have hp := h p (by simp)
    rw [e, List.getElem?_append_right (by rw [hp, Nat.succ_mul]; omega), hp]
    have e2 : (j + 1) * k + i - k = j * k + i := by rw [Nat.succ_mul]; omega
    rw [e2, ih]
theorem flatR_set {k : Nat} : ∀ {l : List (List Value)} (j i : Nat) (x : Value) (r : List Value), (∀ p ∈ l, p.length = k) → l[j]? = some r → i < k → flatR (l.set j (r.set i x)) = (flatR l).set (j * k + i) x
  | [], j, i, x, r, _, hj, _ => by simp at hj
  | p :: l, 0, i, x, r, h, hj, hi => by
    have e : flatR (p :: l) = p ++ flatR l := rfl
    have hp := h p (by simp)
    simp only [List.getElem?_cons_zero, Option.some.injEq] at hj
    subst hj
    have e2 : flatR ((p :: l).set 0 (p.set i x)) = (p.set i x) ++ flatR l := rfl
    rw [e, e2, Nat.zero_mul, Nat.zero_add, List.set_append_left _ _ (by omega)]
  | p :: l, j + 1, i, x, r, h, hj, hi => by
    have ih := flatR_set (k := k) (l := l) j i x r (fun q hq => h q (by simp [hq])) (by simpa using hj) hi
    have e : flatR (p :: l) = p ++ flatR l := rfl
    have e2 : flatR ((p :: l).set (j + 1) (r.set i x)) = p ++ flatR (l.set j (r.set i x)) := rfl
    have hp := h p (by simp)
    rw [e, e2, ih, List.set_append_right _ _ (by rw [hp, Nat.succ_mul]; omega), hp]
    congr 2
    rw [Nat.succ_mul]; omega
def OneRows (l : List (List Value)) : Prop := ∀ p ∈ l, ∀ u ∈ p, u.oneCell' = true
theorem OneRows.flat {l : List (List Value)} (h : OneRows l) : ∀ u ∈ flatR l, u.oneCell' = true := by
  intro u hu
  unfold flatR at hu
  rw [List.mem_flatMap] at hu
  obtain ⟨p, hp, hu⟩ := hu
  exact h p hp u hu

/-- These rows of k cells stand in a slice's array. -/
def ReadsR (w : World) (a : Option Addr) (k : Nat) (l : List (List Value)) : Prop :=
  (∀ p ∈ l, p.length = k) ∧ (l = [] ∨ ∃ b off, a = some ⟨b, off, none⟩ ∧ b < w.heap.size ∧ ∀ i u, (flatR l)[i]? = some u → w.cell? ⟨b, off + i, none⟩ = some u)
theorem ReadsR.nil (w : World) (a : Option Addr) (k : Nat) : ReadsR w a k [] := ⟨by simp, .inl rfl⟩
theorem ReadsR.below {w w' : World} {a : Option Addr} {k : Nat} {l : List (List Value)} (h : ReadsR w a k l) (b : Below w.heap.size w w') : ReadsR w' a k l := by
  obtain ⟨h1, h2 | ⟨g, off, e, hg, hc⟩⟩ := h
  · exact ⟨h1, .inl h2⟩
  · exact ⟨h1, .inr ⟨g, off, e, Nat.lt_of_lt_of_le hg b.size, fun i u hi => (b.cell (p := ⟨g, off + i, none⟩) hg).trans (hc i u hi)⟩⟩
theorem ReadsR.alloc {w : World} {a : Option Addr} {k : Nat} {l : List (List Value)} (h : ReadsR w a k l) (o : Obj) : ReadsR (w.alloc o) a k l := h.below ((Below.refl _ _).alloc (Nat.le_refl _) o)
/-- A row of it. -/
theorem ReadsR.row {w : World} {a : Option Addr} {k : Nat} {l : List (List Value)} (h : ReadsR w a k l) {j : Nat} {r : List Value} (hj : l[j]? = some r) :
    ∃ b off, a = some ⟨b, off, none⟩ ∧ b < w.heap.size ∧ ∀ i u, r[i]? = some u → w.cell? ⟨b, off + (j * k + i), none⟩ = some u := by
  obtain ⟨h1, rfl | ⟨b, off, rfl, hb, hc⟩⟩ := h
  · simp at hj
  · refine ⟨b, off, rfl, hb, fun i u hi => hc _ u ?_⟩
    have hr := h1 r (List.mem_of_getElem? hj)
    have hlt := (List.getElem?_eq_some_iff.1 hi).1
    rw [flatR_get h1 hj (by omega)]
    exact hi

/-- Rows that are the call's own. -/
def OwnsR' (B : Nat) (w : World) (e : TypeId) (k : Nat) (v : Value) (l : List (List Value)) : Prop := (∀ p ∈ l, p.length = k) ∧ w.ownsRow B e k v l.length (flatR l)
theorem OwnsR'.nil (B : Nat) (w : World) (e : TypeId) (k : Nat) : OwnsR' B w e k (.slice none 0 0) [] := ⟨by simp, by simp [flatR], .inl ⟨rfl, rfl⟩⟩
/-- A slice that a literal or make made. -/
theorem OwnsR'.new {B : Nat} {w : World} {e : TypeId} {k : Nat} {l : List (List Value)} (hl : ∀ p ∈ l, p.length = k) (hB : B ≤ w.heap.size) (hm : l.length ≤ maxLen) {cs : Array Value} (hcs : cs.toList = flatR l) :
    OwnsR' B (w.alloc (.cells cs e)) e k (.slice (some ⟨w.heap.size, 0, none⟩) l.length l.length) l := by
  have hsz : cs.size = l.length * k := by rw [← Array.length_toList, hcs, flatR_length hl]
  refine ⟨hl, flatR_length hl, .inr ⟨w.heap.size, l.length, cs, rfl, hB, heap_alloc_new w _, Nat.le_refl _, hm, hsz, ?_⟩⟩
  rw [hcs, List.take_of_length_le (by rw [flatR_length hl]; exact Nat.le_refl _)]
theorem OwnsR'.kept {B : Nat} {w w' : World} {e : TypeId} {k : Nat} {v : Value} {l : List (List Value)} (h : OwnsR' B w e k v l) {row : Option Nat} (hg : w.grownBy w' row) (hne : v.ownBlock = none ∨ v.ownBlock ≠ row) : OwnsR' B w' e k v l := ⟨h.1, h.2.kept hg hne⟩
theorem OwnsR'.alloc {B : Nat} {w : World} {e : TypeId} {k : Nat} {v : Value} {l : List (List Value)} (h : OwnsR' B w e k v l) (o : Obj) : OwnsR' B (w.alloc o) e k v l := ⟨h.1, h.2.alloc o⟩
theorem OwnsR'.lt {B : Nat} {w : World} {e : TypeId} {k : Nat} {v : Value} {l : List (List Value)} (h : OwnsR' B w e k v l) : ∀ j, v.ownBlock = some j → B ≤ j ∧ j < w.heap.size := World.ownsRow.lt h.2
theorem OwnsR'.below {B : Nat} {w w' : World} {e : TypeId} {k : Nat} {v : Value} {l : List (List Value)} (h : OwnsR' B w e k v l) (b : Below w.heap.size w w') : OwnsR' B w' e k v l := by
  obtain ⟨h0, h1, ⟨rfl, h2⟩ | ⟨g, cap, cur, rfl, hb, hg, hc, hm, hsz, ht⟩⟩ := h
  · exact ⟨h0, h1, .inl ⟨rfl, h2⟩⟩
  · exact ⟨h0, h1, .inr ⟨g, cap, cur, rfl, hb, (b.block g (Array.getElem?_eq_some_iff.1 hg).1).trans hg, hc, hm, hsz, ht⟩⟩
theorem OwnsR'.less {B B' : Nat} {w : World} {e : TypeId} {k : Nat} {v : Value} {l : List (List Value)} (h : OwnsR' B w e k v l) (hB : B' ≤ B) : OwnsR' B' w e k v l := by
  obtain ⟨h0, h1, ⟨rfl, h2⟩ | ⟨g, cap, cur, rfl, hb, hg, hc, hm, hsz, ht⟩⟩ := h
  · exact ⟨h0, h1, .inl ⟨rfl, h2⟩⟩
  · exact ⟨h0, h1, .inr ⟨g, cap, cur, rfl, Nat.le_trans hB hb, hg, hc, hm, hsz, ht⟩⟩
/-- What is owned reads as what it is. -/
theorem OwnsR'.reads {B : Nat} {w : World} {e : TypeId} {k : Nat} {v : Value} {l : List (List Value)} (h : OwnsR' B w e k v l) : ∃ a cap, v = .slice a l.length cap ∧ ReadsR w a k l ∧ l.length ≤ cap ∧ cap ≤ maxLen := by
  obtain ⟨h0, h1, ⟨rfl, h2⟩ | ⟨g, cap, cur, rfl, hb, hg, hc, hm, hsz, ht⟩⟩ := h
  · exact ⟨none, 0, by rw [h2], ⟨h0, .inl (List.length_eq_zero_iff.1 h2)⟩, by omega, by omega⟩
  · refine ⟨_, cap, rfl, ⟨h0, .inr ⟨g, 0, rfl, (Array.getElem?_eq_some_iff.1 hg).1, fun i u hi => ?_⟩⟩, hc, hm⟩
    have hlt := (List.getElem?_eq_some_iff.1 hi).1
    rw [← ht, List.getElem?_take, if_pos (by rw [← h1]; exact hlt)] at hi
    rw [Nat.zero_add]
    unfold World.cell?
    rw [hg]
    simpa using hi
theorem OwnsR'.head {B : Nat} {w : World} {e : TypeId} {k : Nat} {g n cap : Nat} {l : List (List Value)} (h : OwnsR' B w e k (.slice (some ⟨g, 0, none⟩) n cap) l) : B ≤ g ∧ g < w.heap.size ∧ ∀ j r, l[j]? = some r → ∀ i u, r[i]? = some u → w.cell? ⟨g, j * k + i, none⟩ = some u := by
  have hr := h.reads
  obtain ⟨a, c, hv, hr, _, _⟩ := hr
  obtain ⟨hB, hs⟩ := h.lt g rfl
  refine ⟨hB, hs, fun j r hj i u hi => ?_⟩
  obtain ⟨rfl, _, _⟩ := Value.slice.inj hv
  obtain ⟨b, off, e1, _, hc⟩ := hr.row hj
  obtain ⟨rfl, rfl⟩ : g = b ∧ 0 = off := by simpa using e1
  have := hc i u hi
  rwa [Nat.zero_add] at this
/-- A cell of a row stored. -/
theorem OwnsR'.stored {B : Nat} {w : World} {e : TypeId} {k g n cap : Nat} {l : List (List Value)} (h : OwnsR' B w e k (.slice (some ⟨g, 0, none⟩) n cap) l) (hn : l.length = n) {j i : Nat} {r : List Value} (hj : l[j]? = some r) (hi : i < k) (x : Value) :
    OwnsR' B (w.setCell ⟨g, j * k + i, none⟩ x) e k (.slice (some ⟨g, 0, none⟩) n cap) (l.set j (r.set i x)) ∧ w.grownBy (w.setCell ⟨g, j * k + i, none⟩ x) (some g) := by
  subst hn
  have hs := h.2.stored (j * k + i) x
  refine ⟨⟨?_, ?_⟩, hs.2⟩
  · intro p hp
    rcases List.mem_or_eq_of_mem_set hp with hp | rfl
    · exact h.1 p hp
    · rw [List.length_set]; exact h.1 r (List.mem_of_getElem? hj)
  · rw [List.length_set, flatR_set j i x r h.1 hj hi]
    exact hs.1
theorem OwnsR'.frozen {B : Nat} {w : World} {e : TypeId} {k g n cap : Nat} {l : List (List Value)} (h : OwnsR' B w e k (.slice (some ⟨g, 0, none⟩) n cap) l) (hn : l.length = n) (j : Nat) : w.frozen? ⟨g, j, none⟩ = false := by subst hn; exact h.2.frozenAt j
theorem OwnsR'.grown {B : Nat} {w w' W : World} {e : TypeId} {k : Nat} {v : Value} {l : List (List Value)} (h : OwnsR' B w e k v l) (hB : Below B W w) (hW : B ≤ w.heap.size) (hg : w.grownBy w' v.ownBlock) : Below B W w' :=
  hB.grown hg hW fun j hj => (h.lt j hj).1
/-- 'append(own, rows...)', whatever slice the rows lie in. -/
theorem wp_append_rows' {P : Program} {w : World} {o : Oper} {a : Act} {K : Act → World → Prop} {Q : Exit → Act → World → Prop} (s x : Operand) (t : TypeId)
    (ho : o.op = .call { callee := .builtin .append, args := #[s, x], argTypes := #[t, t] })
    (B : Nat) (e : TypeId) (z : Value) (k bytes : Nat) (ht : P.underlying t = some (.slice e)) (hinfo : (P.info? e).map (fun i => (i.zero, i.size, i.bytes)) = some (some z, k, bytes)) (hzs : z.cells.size = k) (hk : 0 < k)
    (v : Value) (l : List (List Value)) (hs : a.eval s = v) (hown : OwnsR' B w e k v l) (sa : Option Addr) (c : Nat) (news : List (List Value)) (hx : a.eval x = .slice sa news.length c) (hr : ReadsR w sa k news) (hone : OneRows news)
    (hb : (l.length + news.length) * bytes ≤ 140737488355328) (hb2 : l.length + news.length ≤ maxLen) (hB : B ≤ w.heap.size)
    (h : ∀ v' w', OwnsR' B w' e k v' (l ++ news) → w.grownBy w' v.ownBlock → K (a.put o.dst v') w') : o.wp P a w K Q := by
  obtain ⟨hlen, hr⟩ := hr
  obtain ⟨i0, hi, hz0, hz1, hz2⟩ := info_parts hinfo
  have close : ∀ v' w', w'.ownsRow B e k v' (l.length + news.length) (flatR l ++ flatR news) → OwnsR' B w' e k v' (l ++ news) := fun v' w' h' => by
    refine ⟨?_, by rw [List.length_append, flatR_append]; exact h'⟩
    intro p hp
    rcases List.mem_append.1 hp with hp | hp
    · exact hown.1 p hp
    · exact hlen p hp
  cases sa with
  | none =>
    have hn : news = [] := by
      rcases hr with rfl | ⟨b, off, he, _⟩
      · rfl
      · cases he
    subst hn
    have hrun := run_append_nothingV (P := P) (w := w) B t o.type e i0 k ht hi v _ _ hown.2 none c
    unfold Oper.wp
    simp only [List.length_nil] at hx
    simp [execOp, ho, resolve, invoke, builtin, hs, hx, hrun, Result.andThen]
    refine h _ _ (close _ _ ?_) ⟨rfl, rfl, rfl, Nat.le_refl _, fun _ _ _ => rfl⟩
    have hh := hown.2
    simpa [flatR] using hh
  | some ad =>
    refine wp_append_own w s x t ho B e i0 z k bytes ht hi hz0 hz1 hz2 hzs hk v l.length (flatR l) hs hown.2 ad news.length c (flatR news) hx (flatR_length hlen) ?_ (OneRows.flat hone) hb2 hb hB (fun v' w' h1 h2 _ => h v' w' (close _ _ h1) h2)
    intro j u hu
    rcases hr with rfl | ⟨b, off, he, _, hc⟩
    · simp [flatR] at hu
    · cases he
      have hadd : (⟨b, off, none⟩ : Addr).add j = ⟨b, off + j, none⟩ := by unfold Addr.add; split <;> simp_all
      rw [hadd]
      exact hc j u hu
theorem wpList_append_rows' {P : Program} {w : World} {ops : Array Oper} {rest : List Oper} {o : Oper} {a : Act} {Q : Exit → Act → World → Prop} (hgd : o.guard = none) (s x : Operand) (t : TypeId)
    (ho : o.op = .call { callee := .builtin .append, args := #[s, x], argTypes := #[t, t] })
    (B : Nat) (e : TypeId) (z : Value) (k bytes : Nat) (ht : P.underlying t = some (.slice e)) (hinfo : (P.info? e).map (fun i => (i.zero, i.size, i.bytes)) = some (some z, k, bytes)) (hzs : z.cells.size = k) (hk : 0 < k)
    (v : Value) (l : List (List Value)) (hs : a.eval s = v) (hown : OwnsR' B w e k v l) (sa : Option Addr) (c : Nat) (news : List (List Value)) (hx : a.eval x = .slice sa news.length c) (hr : ReadsR w sa k news) (hone : OneRows news)
    (hb : (l.length + news.length) * bytes ≤ 140737488355328) (hb2 : l.length + news.length ≤ maxLen) (hB : B ≤ w.heap.size)
    (h : ∀ v' w', OwnsR' B w' e k v' (l ++ news) → w.grownBy w' v.ownBlock → wpList P ops Q rest (a.put o.dst v') w') : wpList P ops Q (o :: rest) a w :=
  wpList_plain hgd fun _ hK => wp_append_rows' s x t ho B e z k bytes ht hinfo hzs hk v l hs hown sa c news hx hr hone hb hb2 hB fun v' w' h1 h2 => hK _ _ (h v' w' h1 h2)
/-- A row of three cells, four cells, loaded. -/
theorem three_of {r : List Value} {x y z : Value} (h : r = [x, y, z]) : r[0]? = some x ∧ r[1]? = some y ∧ r[2]? = some z := by subst h; exact ⟨rfl, rfl, rfl⟩
theorem grown_same (w : World) (row : Option Nat) : w.grownBy w row := ⟨rfl, rfl, rfl, Nat.le_refl _, fun _ _ _ => rfl⟩
theorem below_drewN (w : World) (n : Nat) : Below w.heap.size w (w.drewN n) := ⟨rfl, rfl, rfl, Nat.le_refl _, fun _ _ => rfl⟩
theorem below_drew (w : World) : Below w.heap.size w w.drew := ⟨rfl, rfl, rfl, Nat.le_refl _, fun _ _ => rfl⟩
theorem grown_to_drewN {w w' : World} {n : Nat} {row : Option Nat} (h : w.grownBy w' row) : w.grownBy (w'.drewN n) row := ⟨h.os, h.tape, h.output, h.size, h.block⟩
theorem grown_to_drew {w w' : World} {row : Option Nat} (h : w.grownBy w' row) : w.grownBy w'.drew row := ⟨h.os, h.tape, h.output, h.size, h.block⟩
theorem grown_of_drewN {w w' : World} {n : Nat} {row : Option Nat} (h : (w.drewN n).grownBy w' row) : w.grownBy w' row := ⟨h.os, h.tape, h.output, h.size, h.block⟩
end Go.Proofs.YtebgejoemlgggaaDoor
