/- Slices of values of one cell each (numbers, truths, texts): what they read as; rows that a call owns; append onto them, of whatever source. -/
import Derived.OwnWalk
import Derived.BigFrame
import Derived.Laws.AppendOwnNone
import Derived.Laws.OwnMore
import Derived.Below
namespace Go.Proofs.YtebgejoemlgggaaDoor
open Go.RowKit
set_option linter.unusedVariables false
set_option maxRecDepth 100000

/-- The slice's elements are these values. -/
def ReadsV (w : World) (a : Option Addr) (len : Nat) (l : List Value) : Prop :=
  l.length = len ∧ (l = [] ∨ ∃ b off, a = some ⟨b, off, none⟩ ∧ b < w.heap.size ∧ ∀ i u, l[i]? = some u → w.cell? ⟨b, off + i, none⟩ = some u)
theorem ReadsV.nil (w : World) (a : Option Addr) : ReadsV w a 0 [] := ⟨rfl, .inl rfl⟩
theorem ReadsV.below {w w' : World} {a : Option Addr} {len : Nat} {l : List Value} (h : ReadsV w a len l) (b : Below w.heap.size w w') : ReadsV w' a len l := by
  obtain ⟨h1, rfl | ⟨g, off, rfl, hg, hc⟩⟩ := h
  · exact ⟨h1, .inl rfl⟩
  · exact ⟨h1, .inr ⟨g, off, rfl, Nat.lt_of_lt_of_le hg b.size, fun i u hi => (b.cell (p := ⟨g, off + i, none⟩) hg).trans (hc i u hi)⟩⟩
theorem ReadsV.alloc {w : World} {a : Option Addr} {len : Nat} {l : List Value} (h : ReadsV w a len l) (o : Obj) : ReadsV (w.alloc o) a len l := h.below ((Below.refl _ _).alloc (Nat.le_refl _) o)
/-- The first k. -/
theorem ReadsV.take {w : World} {a : Option Addr} {len : Nat} {l : List Value} (h : ReadsV w a len l) {k : Nat} (hk : k ≤ len) : ReadsV w a k (l.take k) := by
  obtain ⟨h1, h2⟩ := h
  refine ⟨by rw [List.length_take]; omega, ?_⟩
  rcases h2 with rfl | ⟨g, off, rfl, hg, hc⟩
  · left; simp
  · refine .inr ⟨g, off, rfl, hg, fun i u hi => ?_⟩
    rw [List.getElem?_take] at hi
    split at hi
    · exact hc i u hi
    · cases hi
/-- A cell of it. -/
theorem ReadsV.at {w : World} {a : Option Addr} {len : Nat} {l : List Value} (h : ReadsV w a len l) {i : Nat} {u : Value} (hi : l[i]? = some u) : ∃ g off, a = some ⟨g, off, none⟩ ∧ g < w.heap.size ∧ w.cell? ⟨g, off + i, none⟩ = some u := by
  obtain ⟨h1, rfl | ⟨g, off, rfl, hg, hc⟩⟩ := h
  · simp at hi
  · exact ⟨g, off, rfl, hg, hc i u hi⟩

def OneCells (l : List Value) : Prop := ∀ u ∈ l, u.oneCell' = true
theorem OneCells.append {l m : List Value} (h : OneCells l) (k : OneCells m) : OneCells (l ++ m) := fun u hu => by
  rcases List.mem_append.1 hu with hu | hu
  · exact h u hu
  · exact k u hu
/-- A row of values that is the call's own: it begins at block B or behind it. -/
def OwnsV (B : Nat) (w : World) (e : TypeId) (v : Value) (l : List Value) : Prop := w.ownsRow B e 1 v l.length l
theorem OwnsV.nil (B : Nat) (w : World) (e : TypeId) : OwnsV B w e (.slice none 0 0) [] := World.ownsRow_nil w B e 1
theorem OwnsV.alloc {B : Nat} {w : World} {e : TypeId} {v : Value} {l : List Value} (h : OwnsV B w e v l) (o : Obj) : OwnsV B (w.alloc o) e v l := World.ownsRow.alloc h o
theorem OwnsV.kept {B : Nat} {w w' : World} {e : TypeId} {v : Value} {l : List Value} (h : OwnsV B w e v l) {row : Option Nat} (hg : w.grownBy w' row) (hne : v.ownBlock = none ∨ v.ownBlock ≠ row) : OwnsV B w' e v l := World.ownsRow.kept h hg hne
theorem OwnsV.lt {B : Nat} {w : World} {e : TypeId} {v : Value} {l : List Value} (h : OwnsV B w e v l) : ∀ k, v.ownBlock = some k → B ≤ k ∧ k < w.heap.size := World.ownsRow.lt h
theorem OwnsV.below {B : Nat} {w w' : World} {e : TypeId} {v : Value} {l : List Value} (h : OwnsV B w e v l) (b : Below w.heap.size w w') : OwnsV B w' e v l := by
  obtain ⟨h1, ⟨rfl, h2⟩ | ⟨g, cap, cur, rfl, hb, hg, hc, hm, hsz, ht⟩⟩ := h
  · exact ⟨h1, .inl ⟨rfl, h2⟩⟩
  · exact ⟨h1, .inr ⟨g, cap, cur, rfl, hb, (b.block g (Array.getElem?_eq_some_iff.1 hg).1).trans hg, hc, hm, hsz, ht⟩⟩
theorem OwnsV.less {B B' : Nat} {w : World} {e : TypeId} {v : Value} {l : List Value} (h : OwnsV B w e v l) (hB : B' ≤ B) : OwnsV B' w e v l := by
  obtain ⟨h1, ⟨rfl, h2⟩ | ⟨g, cap, cur, rfl, hb, hg, hc, hm, hsz, ht⟩⟩ := h
  · exact ⟨h1, .inl ⟨rfl, h2⟩⟩
  · exact ⟨h1, .inr ⟨g, cap, cur, rfl, Nat.le_trans hB hb, hg, hc, hm, hsz, ht⟩⟩
/-- What is owned reads as what it is. -/
theorem OwnsV.reads {B : Nat} {w : World} {e : TypeId} {v : Value} {l : List Value} (h : OwnsV B w e v l) : ∃ a cap, v = .slice a l.length cap ∧ ReadsV w a l.length l ∧ l.length ≤ cap ∧ cap ≤ maxLen := by
  obtain ⟨h1, ⟨rfl, h2⟩ | ⟨g, cap, cur, rfl, hb, hg, hc, hm, hsz, ht⟩⟩ := h
  · exact ⟨none, 0, by rw [h2], ⟨rfl, .inl (List.length_eq_zero_iff.1 h2)⟩, by omega, by omega⟩
  · refine ⟨_, cap, rfl, ⟨rfl, .inr ⟨g, 0, rfl, (Array.getElem?_eq_some_iff.1 hg).1, fun i u hi => ?_⟩⟩, hc, hm⟩
    have hlt := (List.getElem?_eq_some_iff.1 hi).1
    rw [← ht, List.getElem?_take, if_pos (by omega)] at hi
    rw [Nat.zero_add]
    unfold World.cell?
    rw [hg]
    simpa using hi
/-- The head, for loads and stores by hand. -/
theorem OwnsV.head {B : Nat} {w : World} {e : TypeId} {v : Value} {l : List Value} (h : OwnsV B w e v l) : (v = .slice none 0 0 ∧ l = []) ∨ ∃ g cap, v = .slice (some ⟨g, 0, none⟩) l.length cap ∧ B ≤ g ∧ g < w.heap.size ∧ l.length ≤ cap ∧ cap ≤ maxLen ∧ ∀ i u, l[i]? = some u → w.cell? ⟨g, i, none⟩ = some u := by
  rcases h.2 with ⟨rfl, h2⟩ | ⟨g, cap, cur, rfl, hb, hg, hc, hm, hsz, ht⟩
  · exact .inl ⟨rfl, List.length_eq_zero_iff.1 h2⟩
  · refine .inr ⟨g, cap, rfl, hb, (Array.getElem?_eq_some_iff.1 hg).1, hc, hm, fun i u hi => ?_⟩
    have hlt := (List.getElem?_eq_some_iff.1 hi).1
    rw [← ht, List.getElem?_take, if_pos (by omega)] at hi
    unfold World.cell?
    rw [hg]
    simpa using hi
theorem OwnsV.stored {B : Nat} {w : World} {e : TypeId} {g n cap : Nat} {l : List Value} (h : OwnsV B w e (.slice (some ⟨g, 0, none⟩) n cap) l) (hn : l.length = n) (j : Nat) (u : Value) :
    OwnsV B (w.setCell ⟨g, j, none⟩ u) e (.slice (some ⟨g, 0, none⟩) n cap) (l.set j u) ∧ w.grownBy (w.setCell ⟨g, j, none⟩ u) (some g) := by
  subst hn
  have hs := World.ownsRow.stored h j u
  refine ⟨?_, hs.2⟩
  unfold OwnsV
  rw [List.length_set]
  exact hs.1
theorem OwnsV.frozen {B : Nat} {w : World} {e : TypeId} {g n cap : Nat} {l : List Value} (h : OwnsV B w e (.slice (some ⟨g, 0, none⟩) n cap) l) (hn : l.length = n) (j : Nat) : w.frozen? ⟨g, j, none⟩ = false := by subst hn; exact World.ownsRow.frozenAt h j
/-- A literal. -/
theorem OwnsV.new {B : Nat} {w : World} {e : TypeId} (cs : Array Value) (hB : B ≤ w.heap.size) (hm : cs.size ≤ maxLen) : OwnsV B (w.alloc (.cells cs e)) e (.slice (some ⟨w.heap.size, 0, none⟩) cs.size cs.size) cs.toList := by
  have h := World.ownsRow_lit (base := B) (e := e) (size := 1) w cs cs.size hB hm (by omega)
  unfold OwnsV
  rw [Array.length_toList]
  exact h
theorem ReadsV.lit (w : World) (cs : Array Value) (e : TypeId) : ReadsV (w.alloc (.cells cs e)) (some ⟨w.heap.size, 0, none⟩) cs.size cs.toList := by
  refine ⟨Array.length_toList, .inr ⟨w.heap.size, 0, rfl, by simp, fun i u hi => ?_⟩⟩
  rw [Nat.zero_add]
  unfold World.cell?
  rw [heap_alloc_new]
  simpa using hi

theorem run_append_nothingV {P : Program} {w : World} (base : Nat) (t ty e : TypeId) (i : TypeInfo) (size : Nat) (ht : P.underlying t = some (.slice e)) (hi : P.info? e = some i)
    (v : Value) (n : Nat) (xs : List Value) (hown : w.ownsRow base e size v n xs) (sa : Option Addr) (c : Nat) :
    (Builtin.append_ #[t, t] ty #[v, .slice none 0 c]).run P w = .ok v w := by
  rcases hown.2 with ⟨rfl, rfl⟩ | ⟨g, cap, cur, rfl, _, _, hnc, _⟩
  · simp [Builtin.append_, run_underlying ht, sizeOf, typeInfo, hi, Builtin.lenOf, Builtin.firstCells]
  · simp [Builtin.append_, run_underlying ht, sizeOf, typeInfo, hi, Builtin.lenOf, Builtin.firstCells, hnc, storeCells]

/-- 'append(own, values...)', whatever slice the values lie in. -/
theorem wp_append_vals {P : Program} {w : World} {o : Oper} {a : Act} {K : Act → World → Prop} {Q : Exit → Act → World → Prop} (s x : Operand) (t : TypeId)
    (ho : o.op = .call { callee := .builtin .append, args := #[s, x], argTypes := #[t, t] })
    (B : Nat) (e : TypeId) (z : Value) (bytes : Nat) (ht : P.underlying t = some (.slice e)) (hinfo : (P.info? e).map (fun i => (i.zero, i.size, i.bytes)) = some (some z, 1, bytes)) (hzs : z.cells.size = 1)
    (v : Value) (l : List Value) (hs : a.eval s = v) (hown : OwnsV B w e v l) (sa : Option Addr) (m c : Nat) (hx : a.eval x = .slice sa m c) (news : List Value) (hr : ReadsV w sa m news) (hone : OneCells news)
    (hb : (l.length + m) * bytes ≤ 140737488355328) (hb2 : l.length + m ≤ maxLen) (hB : B ≤ w.heap.size)
    (h : ∀ v' w', OwnsV B w' e v' (l ++ news) → w.grownBy w' v.ownBlock → K (a.put o.dst v') w') : o.wp P a w K Q := by
  obtain ⟨hlen, hr⟩ := hr
  obtain ⟨i0, hi, hz0, hz1, hz2⟩ := info_parts hinfo
  have close : ∀ v' w', w'.ownsRow B e 1 v' (l.length + m) (l ++ news) → OwnsV B w' e v' (l ++ news) := fun v' w' h' => by
    unfold OwnsV; rw [List.length_append, hlen]; exact h'
  cases sa with
  | none =>
    have hn : news = [] := by
      rcases hr with rfl | ⟨b, off, he, _⟩
      · rfl
      · cases he
    subst hn
    obtain rfl : m = 0 := by simpa using hlen.symm
    have hrun := run_append_nothingV (P := P) (w := w) B t o.type e i0 1 ht hi v _ _ hown none c
    unfold Oper.wp
    simp [execOp, ho, resolve, invoke, builtin, hs, hx, hrun, Result.andThen]
    exact h _ _ (close _ _ (by have hh := hown; unfold OwnsV at hh; simpa using hh)) ⟨rfl, rfl, rfl, Nat.le_refl _, fun _ _ _ => rfl⟩
  | some ad =>
    refine wp_append_own w s x t ho B e i0 z 1 bytes ht hi hz0 hz1 hz2 hzs (by decide) v l.length l hs hown ad m c news hx (by rw [hlen, Nat.mul_one])
      ?_ hone hb2 hb hB (fun v' w' h1 h2 _ => h v' w' (close _ _ h1) h2)
    intro j u hu
    rcases hr with rfl | ⟨b, off, he, _, hc⟩
    · simp at hu
    · cases he
      have hadd : (⟨b, off, none⟩ : Addr).add j = ⟨b, off + j, none⟩ := by unfold Addr.add; split <;> simp_all
      rw [hadd]
      exact hc j u hu
theorem wpList_append_vals {P : Program} {w : World} {ops : Array Oper} {rest : List Oper} {o : Oper} {a : Act} {Q : Exit → Act → World → Prop} (hgd : o.guard = none) (s x : Operand) (t : TypeId)
    (ho : o.op = .call { callee := .builtin .append, args := #[s, x], argTypes := #[t, t] })
    (B : Nat) (e : TypeId) (z : Value) (bytes : Nat) (ht : P.underlying t = some (.slice e)) (hinfo : (P.info? e).map (fun i => (i.zero, i.size, i.bytes)) = some (some z, 1, bytes)) (hzs : z.cells.size = 1)
    (v : Value) (l : List Value) (hs : a.eval s = v) (hown : OwnsV B w e v l) (sa : Option Addr) (m c : Nat) (hx : a.eval x = .slice sa m c) (news : List Value) (hr : ReadsV w sa m news) (hone : OneCells news)
    (hb : (l.length + m) * bytes ≤ 140737488355328) (hb2 : l.length + m ≤ maxLen) (hB : B ≤ w.heap.size)
    (h : ∀ v' w', OwnsV B w' e v' (l ++ news) → w.grownBy w' v.ownBlock → wpList P ops Q rest (a.put o.dst v') w') : wpList P ops Q (o :: rest) a w :=
  wpList_plain hgd fun _ hK => wp_append_vals s x t ho B e z bytes ht hinfo hzs v l hs hown sa m c hx news hr hone hb hb2 hB fun v' w' h1 h2 => hK _ _ (h v' w' h1 h2)
/-- The same, under a guard that lets it. -/
theorem wpList_append_vals_want {P : Program} {w : World} {ops : Array Oper} {rest : List Oper} {o : Oper} {a : Act} {Q : Exit → Act → World → Prop} (hgd : Region.wanted o (yielded ops a.tmps) = true) (s x : Operand) (t : TypeId)
    (ho : o.op = .call { callee := .builtin .append, args := #[s, x], argTypes := #[t, t] })
    (B : Nat) (e : TypeId) (z : Value) (bytes : Nat) (ht : P.underlying t = some (.slice e)) (hinfo : (P.info? e).map (fun i => (i.zero, i.size, i.bytes)) = some (some z, 1, bytes)) (hzs : z.cells.size = 1)
    (v : Value) (l : List Value) (hs : a.eval s = v) (hown : OwnsV B w e v l) (sa : Option Addr) (m c : Nat) (hx : a.eval x = .slice sa m c) (news : List Value) (hr : ReadsV w sa m news) (hone : OneCells news)
    (hb : (l.length + m) * bytes ≤ 140737488355328) (hb2 : l.length + m ≤ maxLen) (hB : B ≤ w.heap.size)
    (h : ∀ v' w', OwnsV B w' e v' (l ++ news) → w.grownBy w' v.ownBlock → wpList P ops Q rest (a.put o.dst v') w') : wpList P ops Q (o :: rest) a w :=
  BigFrame.wpList_want hgd fun _ hK => wp_append_vals s x t ho B e z bytes ht hinfo hzs v l hs hown sa m c hx news hr hone hb hb2 hB fun v' w' h1 h2 => hK _ _ (h v' w' h1 h2)
/-- What else there was, behind such an append. -/
theorem OwnsV.grown {B : Nat} {w w' W : World} {e : TypeId} {v : Value} {l : List Value} (h : OwnsV B w e v l) (hB : Below B W w) (hW : B ≤ w.heap.size) (hg : w.grownBy w' v.ownBlock) : Below B W w' :=
  hB.grown hg hW fun k hk => (h.lt k hk).1
end Go.Proofs.YtebgejoemlgggaaDoor
