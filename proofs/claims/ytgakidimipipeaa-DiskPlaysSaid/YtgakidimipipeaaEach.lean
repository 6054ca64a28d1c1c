/- Lists of things laid through a port, one behind the other: what holds from round to round. -/
import Derived.Test.YtgakidimipipeaaInode2
import Derived.Test.YtgakidimipipeaaPortU64
import Derived.Test.YtgakidimipipeaaRowsOf
import Derived.Maps.AppendAt
namespace Go.Proofs.Ytgakidimipipeaa
open Go.RowKit Go.Sort
set_option linter.unusedVariables false
set_option linter.unusedSimpArgs false
set_option maxRecDepth 100000

/-- The item that stands at i; behind the list, one of noughts. -/
def itemAt (z : List FldD) (L : List (List FldD)) (i : Nat) : List FldD := L.getD i z
def runS (z : List FldD) (L : List (List FldD)) (S : PS) : Nat → PS
  | 0 => S
  | i + 1 => stS (runS z L S i) (itemAt z L i)
def runD (z : List FldD) (L : List (List FldD)) (S : PS) : Nat → List (List FldD)
  | 0 => []
  | i + 1 => runD z L S i ++ [stO (runS z L S i) (itemAt z L i)]
theorem runD_length (z : List FldD) (L : List (List FldD)) (S : PS) : ∀ i, (runD z L S i).length = i
  | 0 => rfl
  | i + 1 => by show (_ ++ [_]).length = _; rw [List.length_append, runD_length z L S i]; rfl

theorem port_kept {w w' : World} {pv : Value} {S : PS} {row : Option Nat} (h : IsPort w pv S) (hg : w.grownBy w' row) (ha : ∀ k, row = some k → Away w pv S k) :
    IsPort w' pv S ∧ (∀ k, Away w pv S k ↔ Away w' pv S k) ∧ (∀ k, Apart w pv S k ↔ Apart w' pv S k) := by
  cases S with
  | wr l f =>
    obtain ⟨g, v, rfl, h1, h2⟩ := h
    have hgl : g < w.heap.size := (Array.getElem?_eq_some_iff.1 h1).1
    have hne : row ≠ some g ∧ v.ownBlock = none ∨ row ≠ some g ∧ v.ownBlock ≠ row := by
      cases row with
      | none => by_cases hv : v.ownBlock = none
                · exact .inl ⟨by simp, hv⟩
                · exact .inr ⟨by simp, hv⟩
      | some k =>
        obtain ⟨a1, a2⟩ := (away_wr ⟨h1, h2⟩).1 (ha k rfl)
        exact .inr ⟨fun e => a1 (Option.some.inj e), a2⟩
    have hw : IsWr w' g v l f := by
      refine ⟨?_, h2.1, ?_⟩
      · rw [hg.block g hgl (by rcases hne with h | h <;> exact fun e => h.1 e.symm)]
        exact h1
      · exact h2.2.kept hg (by rcases hne with h | h; exact .inl h.2; exact .inr h.2)
    exact ⟨⟨g, v, rfl, hw⟩, fun k => (away_wr ⟨h1, h2⟩).trans (away_wr hw).symm, fun k => (apart_wr ⟨h1, h2⟩).trans (apart_wr hw).symm⟩
  | rd b =>
    obtain ⟨g, a, cap, rfl, h1, h2, h3, h4, h5⟩ := h
    have hgl : g < w.heap.size := (Array.getElem?_eq_some_iff.1 h1).1
    have hrow : ∀ k, row = some k → k ≠ g ∧ (b ≠ [] → ∀ x, a = some x → x.block ≠ k) := fun k hk => (away_rd ⟨h1, h2, h3, h4, h5⟩).1 (ha k hk)
    have hw : IsRd w' g a cap b := by
      refine ⟨?_, ?_, h3, h4, h5⟩
      · rw [hg.block g hgl (fun e => (hrow g e.symm).1 rfl)]
        exact h1
      · obtain ⟨r1, r2, r3⟩ := h2
        refine ⟨r1, r2, ?_⟩
        by_cases hb : b = []
        · exact .inl hb
        · rcases r3 with r3 | ⟨blk, off, e, hbl, hc⟩
          · exact absurd r3 hb
          · refine .inr ⟨blk, off, e, Nat.lt_of_lt_of_le hbl hg.size, fun i hi => (World.cell?_of_block (a := ⟨blk, off + i, none⟩) (hg.block blk hbl (fun e2 => (hrow blk e2.symm).2 hb _ e rfl))).trans (hc i hi)⟩
    exact ⟨⟨g, a, cap, rfl, hw⟩, fun k => (away_rd ⟨h1, h2, h3, h4, h5⟩).trans (away_rd hw).symm, fun k => (apart_rd ⟨h1, h2, h3, h4, h5⟩).trans (apart_rd hw).symm⟩
theorem port_fresh {w : World} {pv : Value} {S : PS} (h : IsPort w pv S) {k : Nat} (hk : w.heap.size ≤ k) : Away w pv S k := by
  cases S with
  | wr l f =>
    obtain ⟨g, v, rfl, h1, h2⟩ := h
    have hgl : g < w.heap.size := (Array.getElem?_eq_some_iff.1 h1).1
    refine (away_wr ⟨h1, h2⟩).2 ⟨by omega, fun e => ?_⟩
    have := (World.ownsRow.lt h2.2 k e).2
    omega
  | rd b =>
    obtain ⟨g, a, cap, rfl, h1, h2, h3, h4, h5⟩ := h
    have hgl : g < w.heap.size := (Array.getElem?_eq_some_iff.1 h1).1
    refine (away_rd ⟨h1, h2, h3, h4, h5⟩).2 ⟨by omega, fun hb x hx => ?_⟩
    obtain ⟨_, _, h | ⟨blk, off, e, hbl, _⟩⟩ := h2
    · exact absurd h hb
    · rw [hx] at e
      obtain rfl := Option.some.inj e
      show blk ≠ k
      omega
/-- From w0 to w the port has been used, and there are new blocks. -/
abbrev Went (w0 : World) (pv : Value) (S0 : PS) (w : World) (S : PS) : Prop := Passed w0.heap.size w0 pv S0 w S
theorem went_refl {w : World} {pv : Value} {S : PS} (h : IsPort w pv S) : Went w pv S w S := ⟨rfl, rfl, rfl, Nat.le_refl _, fun _ _ _ _ => rfl, fun _ _ h => h, fun _ _ h => h, h⟩
theorem went_passed {w0 w w' : World} {pv : Value} {S0 S S' : PS} {gx : Nat} (h : Went w0 pv S0 w S) (k : Passed gx w pv S w' S') (hx : w0.heap.size ≤ gx) : Went w0 pv S0 w' S' :=
  ⟨k.os.trans h.os, k.tape.trans h.tape, k.output.trans h.output, Nat.le_trans h.size k.size,
    fun i hi ha hne => (k.block i (Nat.lt_of_lt_of_le hi h.size) (h.apart i hi ha) (by omega)).trans (h.block i hi ha hne), fun i hi ha => k.apart i (Nat.lt_of_lt_of_le hi h.size) (h.apart i hi ha), fun i hi ha => k.away i (Nat.lt_of_lt_of_le hi h.size) (h.away i hi ha), k.port⟩
theorem went_grown {w0 w w' : World} {pv : Value} {S0 S : PS} {row : Option Nat} (h : Went w0 pv S0 w S) (hg : w.grownBy w' row) (hr : ∀ k, row = some k → w0.heap.size ≤ k ∧ Away w pv S k) : Went w0 pv S0 w' S := by
  obtain ⟨p1, p2, p3⟩ := port_kept h.port hg fun k hk => (hr k hk).2
  exact ⟨hg.os.trans h.os, hg.tape.trans h.tape, hg.output.trans h.output, Nat.le_trans h.size hg.size,
    fun i hi ha hne => (hg.block i (Nat.lt_of_lt_of_le hi h.size) (fun e => by have := (hr i e.symm).1; omega)).trans (h.block i hi ha hne), fun i hi ha => (p3 i).1 (h.apart i hi ha), fun i hi ha => (p2 i).1 (h.away i hi ha), p1⟩
theorem grown_alloc (w : World) (o : Obj) (row : Option Nat) : w.grownBy (w.alloc o) row := ⟨rfl, rfl, rfl, by simp, fun k hk _ => Below.heap_alloc _ _ _ (by omega)⟩

/-- At the head of a round: what was laid so far is owned, and the port is where it is. -/
structure EachAt (t : TypeId) (N : Nat) (w0 : World) (pv : Value) (S0 : PS) (w : World) (S : PS) (v : Value) (done : List (List FldD)) : Prop where
  went : Went w0 pv S0 w S
  own : OwnsR' w0.heap.size w t N v (done.map rowV)
  away : ∀ k, v.ownBlock = some k → Away w pv S k
theorem each_start (t : TypeId) (N : Nat) {w : World} {pv : Value} {S : PS} (h : IsPort w pv S) : EachAt t N w pv S w S (.slice none 0 0) [] :=
  ⟨went_refl h, OwnsR'.nil _ _ _ _, fun k hk => by cases hk⟩
theorem EachAt.alloc {t : TypeId} {N : Nat} {w0 w : World} {pv : Value} {S0 S : PS} {v : Value} {done : List (List FldD)} (h : EachAt t N w0 pv S0 w S v done) (o : Obj) : EachAt t N w0 pv S0 (w.alloc o) S v done :=
  ⟨went_grown h.went (grown_alloc w o none) (fun k hk => by cases hk), h.own.alloc o, fun k hk => ((port_kept h.went.port (grown_alloc w o none) (fun k hk => by cases hk)).2.1 k).1 (h.away k hk)⟩
/-- An item in a box of its own, to be laid. -/
theorem EachAt.lay {t : TypeId} {N : Nat} {w0 w : World} {pv : Value} {S0 S : PS} {v : Value} {done : List (List FldD)} (h : EachAt t N w0 pv S0 w S v done) (x : List FldD) (hf : S.fits (widths x)) :
    LayAt x w.heap.size t (w.alloc (.cells (cellsF x) t)) pv S 0 (w.alloc (.cells (cellsF x) t)) :=
  layAt_start (h.alloc _).went.port (heap_alloc_new w _) (((port_kept h.went.port (grown_alloc w (.cells (cellsF x) t) none) (fun k hk => by cases hk)).2.1 _).1 (port_fresh h.went.port (Nat.le_refl _))) hf
theorem owns_same {B : Nat} {w w' : World} {e : TypeId} {k : Nat} {v : Value} {l : List (List Value)} (h : OwnsR' B w e k v l) (hb : ∀ j, v.ownBlock = some j → w'.heap[j]? = w.heap[j]?) : OwnsR' B w' e k v l := by
  obtain ⟨h0, h1, ⟨rfl, h2⟩ | ⟨g, cap, cur, rfl, hbb, hg, hc, hm, hsz, ht⟩⟩ := h
  · exact ⟨h0, h1, .inl ⟨rfl, h2⟩⟩
  · exact ⟨h0, h1, .inr ⟨g, cap, cur, rfl, hbb, (hb g rfl).trans hg, hc, hm, hsz, ht⟩⟩
/-- Behind the laying. -/
theorem EachAt.laid {t : TypeId} {N : Nat} {w0 w w' : World} {pv : Value} {S0 S : PS} {v : Value} {done : List (List FldD)} {x : List FldD} (h : EachAt t N w0 pv S0 w S v done) (hx : x.length = N) (k : LayAt x w.heap.size t (w.alloc (.cells (cellsF x) t)) pv S N w') :
    EachAt t N w0 pv S0 w' (stS S x) v done ∧ w'.heap[w.heap.size]? = some (.cells (cellsF (stO S x)) t (0, 0)) ∧ w.heap.size + 1 ≤ w'.heap.size := by
  have hp := k.passed
  rw [List.take_of_length_le (by omega)] at hp
  have ha := h.alloc (.cells (cellsF x) t)
  have hrow := k.row
  have e : fieldsAt S x N = stO S x := by unfold fieldsAt; rw [List.take_of_length_le (by omega), List.drop_of_length_le (by omega), List.append_nil]
  rw [e] at hrow
  have hlt : ∀ j, v.ownBlock = some j → j < w.heap.size := fun j hj => (h.own.lt j hj).2
  refine ⟨⟨went_passed ha.went hp h.went.size, owns_same ha.own fun j hj => hp.block j (by have := hlt j hj; simp; omega) (ha.away j hj).apart (by have := hlt j hj; omega), fun j hj => hp.away j (by have := hlt j hj; simp; omega) (ha.away j hj)⟩, hrow, ?_⟩
  have := hp.size
  simpa using this
/-- Behind the append. -/
theorem EachAt.next {t : TypeId} {N : Nat} {w0 w w' : World} {pv : Value} {S0 S : PS} {v v' : Value} {done : List (List FldD)} {y : List FldD} (h : EachAt t N w0 pv S0 w S v done) (ho : OwnsR' w0.heap.size w' t N v' (done.map rowV ++ [rowV y])) (hg : w.grownBy w' v.ownBlock) (hloc : v'.ownBlock = v.ownBlock ∨ v'.ownBlock = some w.heap.size) :
    EachAt t N w0 pv S0 w' S v' (done ++ [y]) := by
  have hr : ∀ k, v.ownBlock = some k → w0.heap.size ≤ k ∧ Away w pv S k := fun k hk => ⟨(h.own.lt k hk).1, h.away k hk⟩
  obtain ⟨p1, p2, p3⟩ := port_kept h.went.port hg fun k hk => h.away k hk
  refine ⟨went_grown h.went hg hr, by rw [List.map_append]; exact ho, fun k hk => (p2 k).1 ?_⟩
  rcases hloc with e | e
  · exact h.away k (by rw [← e]; exact hk)
  · rw [e] at hk
    obtain rfl := Option.some.inj hk
    exact port_fresh h.went.port (Nat.le_refl _)
/-- 'append(all, x)', one row, with where the new slice lies. -/
theorem wpList_append_row_at {P : Program} {w : World} {ops : Array Oper} {rest : List Oper} {o : Oper} {a : Act} {Q : Exit → Act → World → Prop} (hgd : o.guard = none) (s x : Operand) (t : TypeId)
    (ho : o.op = .call { callee := .builtin .append, args := #[s, x], argTypes := #[t, t] })
    (B : Nat) (e : TypeId) (z : Value) (k bytes : Nat) (ht : P.underlying t = some (.slice e)) (hinfo : (P.info? e).map (fun i => (i.zero, i.size, i.bytes)) = some (some z, k, bytes)) (hzs : z.cells.size = k) (hk : 0 < k)
    (v : Value) (l : List (List Value)) (hs : a.eval s = v) (hown : OwnsR' B w e k v l) (g c : Nat) (r : List Value) (hx : a.eval x = .slice (some ⟨g, 0, none⟩) 1 c) (hrl : r.length = k) (hr : ∀ j u, r[j]? = some u → w.cell? ⟨g, j, none⟩ = some u) (hone : ∀ u ∈ r, u.oneCell' = true)
    (hb : (l.length + 1) * bytes ≤ 140737488355328) (hb2 : l.length + 1 ≤ maxLen) (hB : B ≤ w.heap.size)
    (h : ∀ v' w', OwnsR' B w' e k v' (l ++ [r]) → w.grownBy w' v.ownBlock → (v'.ownBlock = v.ownBlock ∨ v'.ownBlock = some w.heap.size) → wpList P ops Q rest (a.put o.dst v') w') : wpList P ops Q (o :: rest) a w := by
  obtain ⟨i0, hi, hz0, hz1, hz2⟩ := info_parts hinfo
  refine wpList_append_own_at w hgd s x t ho B e i0 z k bytes ht hi hz0 hz1 hz2 hzs hk v l.length (flatR l) hs hown.2 ⟨g, 0, none⟩ 1 c r hx (by rw [hrl, Nat.one_mul]) ?_ hone hb2 hb hB ?_
  · intro j u hu
    have hadd : (⟨g, 0, none⟩ : Addr).add j = ⟨g, j, none⟩ := by unfold Addr.add; split <;> simp_all
    rw [hadd]
    exact hr j u hu
  · intro v' w' h1 h2 _ h4
    refine h v' w' ⟨?_, ?_⟩ h2 h4
    · intro p hp
      rcases List.mem_append.1 hp with hp | hp
      · exact hown.1 p hp
      · obtain rfl : p = r := by simpa using hp
        exact hrl
    · rw [List.length_append, flatR_append]
      have e : flatR [r] = r := by simp [flatR]
      rw [e]
      exact h1
theorem below_grown0 {w w' : World} (h : Below w.heap.size w w') : w.grownBy w' none := ⟨h.os, h.tape, h.output, h.size, fun k hk _ => h.block k hk⟩
/-- Behind the laying of a list: the box holds what was laid, the port is where it is. -/
def RestPost (t lt : TypeId) (N : Nat) (w : World) (pv : Value) (S S' : PS) (gx : Nat) (done : List (List FldD)) (e : Ending) (w' : World) : Prop :=
  e = .returned (.tuple #[]) ∧ ∃ v, w'.heap[gx]? = some (.cells #[v] lt (0, 0)) ∧ OwnsR' w.heap.size w' t N v (done.map rowV) ∧ Passed gx w pv S w' S'
theorem away_ne {w : World} {pv : Value} {S : PS} {k : Nat} (h : IsPort w pv S) (hk : w.heap.size ≤ k) : Apart w pv S k := (port_fresh h hk).apart
/-- The port's own blocks are of other types. -/
theorem rest_fin {t lt : TypeId} {N : Nat} {w w2 W : World} {pv : Value} {S S' : PS} {gx : Nat} {v : Value} {u : Value} {dn : List (List FldD)} (hport : IsPort w pv S) (hq : Below w.heap.size w w2) (hlt : lt ≠ t) (hgx : gx < w.heap.size) (hax : Away w pv S gx) (nx : w.heap[gx]? = some (.cells #[u] lt (0, 0))) (h : EachAt t N w2 pv S W S' v dn) :
    RestPost t lt N w pv S S' gx dn (.returned (.tuple #[])) (W.setCell ⟨gx, 0, none⟩ v) := by
  obtain ⟨p1, p2, p3⟩ := port_kept hport (below_grown0 hq) (fun k hk => by cases hk)
  have hsz := hq.size
  have nxW : W.heap[gx]? = some (.cells #[u] lt (0, 0)) := (h.went.block gx (by omega) ((p2 gx).1 hax).apart (by omega)).trans ((hq.block gx hgx).trans nx)
  have haW : Away W pv S' gx := h.went.away gx (by omega) ((p2 gx).1 hax)
  have hgr : W.grownBy (W.setCell ⟨gx, 0, none⟩ v) (some gx) := ⟨rfl, rfl, rfl, by simp, fun k _ hk => Below.heap_setCell _ _ _ _ (fun e => hk (by rw [e]))⟩
  obtain ⟨r1, r2, r3⟩ := port_kept h.went.port hgr (fun k hk => by cases hk; exact haW)
  refine ⟨rfl, v, ?_, ?_, ?_⟩
  · rw [heap_setCell_same W gx 0 _ _ _ nxW]
    rfl
  · refine (owns_same (h.own.less hsz) fun j hj => Below.heap_setCell _ _ _ _ ?_)
    have := (h.own.lt j hj).1
    show j ≠ gx
    omega
  · refine ⟨hgr.os.trans (h.went.os.trans hq.os), hgr.tape.trans (h.went.tape.trans hq.tape), hgr.output.trans (h.went.output.trans hq.output), Nat.le_trans hsz (Nat.le_trans h.went.size hgr.size), fun i hi ha hne => ?_, fun i hi ha => (r3 i).1 (h.went.apart i (by omega) ((p3 i).1 ha)), fun i hi ha => (r2 i).1 (h.went.away i (by omega) ((p2 i).1 ha)), r1⟩
    exact (hgr.block i (by have := h.went.size; omega) (by simpa using hne)).trans ((h.went.block i (by omega) ((p3 i).1 ha) (by omega)).trans (hq.block i hi))
theorem each_shape {t : TypeId} {N : Nat} {w0 w : World} {pv : Value} {S0 S : PS} {v : Value} {done : List (List FldD)} (h : EachAt t N w0 pv S0 w S v done) : ∃ a n c, v = .slice a n c := by
  obtain ⟨a, c, e, _⟩ := h.own.reads
  exact ⟨_, _, _, e⟩
theorem port_iface {w : World} {pv : Value} {S : PS} (h : IsPort w pv S) : ∃ t a, pv = .iface t a := by
  cases S with
  | wr l f => obtain ⟨g, v, rfl, _⟩ := h; exact ⟨_, _, rfl⟩
  | rd b => obtain ⟨g, a, cap, rfl, _⟩ := h; exact ⟨_, _, rfl⟩
end Go.Proofs.Ytgakidimipipeaa
