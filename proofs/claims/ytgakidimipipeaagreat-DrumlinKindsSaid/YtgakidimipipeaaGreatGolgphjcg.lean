/- Lists of things laid through a port, one behind the other: what holds from round to round. Things laid one behind the other: what holds of any port. How many bytes a port has left to be read. A region's header, laid through a port, written and read. The fixed fact of layer 5's laws, by its walk. -/
import Derived.Test.YtgakidimipipeaaGreatGkjcciiaj
import Derived.Test.YtgakidimipipeaaGreatGkjpjpkmb
import Derived.Maps.AppendAt
import Derived.Test.YtgakidimipipeaaGreatGgndplpbm
import Derived.Test.YtgakidimipipeaaGreatGldejmhmc
namespace Go.Proofs.YtgakidimipipeaaGreat
open Go.RowKit Go.Sort
set_option linter.unusedVariables false
set_option linter.unusedSimpArgs false
set_option maxRecDepth 100000

/-- The item that stands at i; behind the list, one of noughts. -/
def itemAt (z : List FldD) (L : List (List FldD)) (i : Nat) : List FldD := L.getD i z
def runS (z : List FldD) (L : List (List FldD)) (S : PS) : Nat → PS
  | 0 => S
  | i + 1 => stS (runS z L S i) (itemAt z L i)
def runD (z : List FldD) (L : List (List FldD)) (S : PS) : Nat → List (List FldD)
  | 0 => []
  | i + 1 => runD z L S i ++ [stO (runS z L S i) (itemAt z L i)]
theorem runD_length (z : List FldD) (L : List (List FldD)) (S : PS) : ∀ i, (runD z L S i).length = i
  | 0 => rfl
  | i + 1 => by show (_ ++ [_]).length = _; rw [List.length_append, runD_length z L S i]; rfl

theorem port_kept {w w' : World} {pv : Value} {S : PS} {row : Option Nat} (h : IsPort w pv S) (hg : w.grownBy w' row) (ha : ∀ k, row = some k → Away w pv S k) :
    IsPort w' pv S ∧ (∀ k, Away w pv S k ↔ Away w' pv S k) ∧ (∀ k, Apart w pv S k ↔ Apart w' pv S k) := by
  cases S with
  | wr l f =>
    obtain ⟨g, v, rfl, h1, h2⟩ := h
    have hgl : g < w.heap.size := (Array.getElem?_eq_some_iff.1 h1).1
    have hne : row ≠ some g ∧ v.ownBlock = none ∨ row ≠ some g ∧ v.ownBlock ≠ row := by
      cases row with
      | none => by_cases hv : v.ownBlock = none
                · exact .inl ⟨by simp, hv⟩
                · exact .inr ⟨by simp, hv⟩
      | some k =>
        obtain ⟨a1, a2⟩ := (away_wr ⟨h1, h2⟩).1 (ha k rfl)
        exact .inr ⟨fun e => a1 (Option.some.inj e), a2⟩
    have hw : IsWr w' g v l f := by
      refine ⟨?_, h2.1, ?_⟩
      · rw [hg.block g hgl (by rcases hne with h | h <;> exact fun e => h.1 e.symm)]
        exact h1
      · exact h2.2.kept hg (by rcases hne with h | h; exact .inl h.2; exact .inr h.2)
    exact ⟨⟨g, v, rfl, hw⟩, fun k => (away_wr ⟨h1, h2⟩).trans (away_wr hw).symm, fun k => (apart_wr ⟨h1, h2⟩).trans (apart_wr hw).symm⟩
  | rd b =>
    obtain ⟨g, a, cap, rfl, h1, h2, h3, h4, h5⟩ := h
    have hgl : g < w.heap.size := (Array.getElem?_eq_some_iff.1 h1).1
    have hrow : ∀ k, row = some k → k ≠ g ∧ (b ≠ [] → ∀ x, a = some x → x.block ≠ k) := fun k hk => (away_rd ⟨h1, h2, h3, h4, h5⟩).1 (ha k hk)
    have hw : IsRd w' g a cap b := by
      refine ⟨?_, ?_, h3, h4, h5⟩
      · rw [hg.block g hgl (fun e => (hrow g e.symm).1 rfl)]
        exact h1
      · obtain ⟨r1, r2, r3⟩ := h2
        refine ⟨r1, r2, ?_⟩
        by_cases hb : b = []
        · exact .inl hb
        · rcases r3 with r3 | ⟨blk, off, e, hbl, hc⟩
          · exact absurd r3 hb
          · refine .inr ⟨blk, off, e, Nat.lt_of_lt_of_le hbl hg.size, fun i hi => (World.cell?_of_block (a := ⟨blk, off + i, none⟩) (hg.block blk hbl (fun e2 => (hrow blk e2.symm).2 hb _ e rfl))).trans (hc i hi)⟩
    exact ⟨⟨g, a, cap, rfl, hw⟩, fun k => (away_rd ⟨h1, h2, h3, h4, h5⟩).trans (away_rd hw).symm, fun k => (apart_rd ⟨h1, h2, h3, h4, h5⟩).trans (apart_rd hw).symm⟩
theorem port_fresh {w : World} {pv : Value} {S : PS} (h : IsPort w pv S) {k : Nat} (hk : w.heap.size ≤ k) : Away w pv S k := by
  cases S with
  | wr l f =>
    obtain ⟨g, v, rfl, h1, h2⟩ := h
    have hgl : g < w.heap.size := (Array.getElem?_eq_some_iff.1 h1).1
    refine (away_wr ⟨h1, h2⟩).2 ⟨by omega, fun e => ?_⟩
    have := (World.ownsRow.lt h2.2 k e).2
    omega
  | rd b =>
    obtain ⟨g, a, cap, rfl, h1, h2, h3, h4, h5⟩ := h
    have hgl : g < w.heap.size := (Array.getElem?_eq_some_iff.1 h1).1
    refine (away_rd ⟨h1, h2, h3, h4, h5⟩).2 ⟨by omega, fun hb x hx => ?_⟩
    obtain ⟨_, _, h | ⟨blk, off, e, hbl, _⟩⟩ := h2
    · exact absurd h hb
    · rw [hx] at e
      obtain rfl := Option.some.inj e
      show blk ≠ k
      omega
/-- From w0 to w the port has been used, and there are new blocks. -/
abbrev Went (w0 : World) (pv : Value) (S0 : PS) (w : World) (S : PS) : Prop := Passed w0.heap.size w0 pv S0 w S
theorem went_refl {w : World} {pv : Value} {S : PS} (h : IsPort w pv S) : Went w pv S w S := ⟨rfl, rfl, rfl, Nat.le_refl _, fun _ _ _ _ => rfl, fun _ _ h => h, fun _ _ h => h, h⟩
theorem went_passed {w0 w w' : World} {pv : Value} {S0 S S' : PS} {gx : Nat} (h : Went w0 pv S0 w S) (k : Passed gx w pv S w' S') (hx : w0.heap.size ≤ gx) : Went w0 pv S0 w' S' :=
  ⟨k.os.trans h.os, k.tape.trans h.tape, k.output.trans h.output, Nat.le_trans h.size k.size,
    fun i hi ha hne => (k.block i (Nat.lt_of_lt_of_le hi h.size) (h.apart i hi ha) (by omega)).trans (h.block i hi ha hne), fun i hi ha => k.apart i (Nat.lt_of_lt_of_le hi h.size) (h.apart i hi ha), fun i hi ha => k.away i (Nat.lt_of_lt_of_le hi h.size) (h.away i hi ha), k.port⟩
theorem went_grown {w0 w w' : World} {pv : Value} {S0 S : PS} {row : Option Nat} (h : Went w0 pv S0 w S) (hg : w.grownBy w' row) (hr : ∀ k, row = some k → w0.heap.size ≤ k ∧ Away w pv S k) : Went w0 pv S0 w' S := by
  obtain ⟨p1, p2, p3⟩ := port_kept h.port hg fun k hk => (hr k hk).2
  exact ⟨hg.os.trans h.os, hg.tape.trans h.tape, hg.output.trans h.output, Nat.le_trans h.size hg.size,
    fun i hi ha hne => (hg.block i (Nat.lt_of_lt_of_le hi h.size) (fun e => by have := (hr i e.symm).1; omega)).trans (h.block i hi ha hne), fun i hi ha => (p3 i).1 (h.apart i hi ha), fun i hi ha => (p2 i).1 (h.away i hi ha), p1⟩
theorem grown_alloc (w : World) (o : Obj) (row : Option Nat) : w.grownBy (w.alloc o) row := ⟨rfl, rfl, rfl, by simp, fun k hk _ => Below.heap_alloc _ _ _ (by omega)⟩

/-- At the head of a round: what was laid so far is owned, and the port is where it is. -/
structure EachAt (t : TypeId) (N : Nat) (w0 : World) (pv : Value) (S0 : PS) (w : World) (S : PS) (v : Value) (done : List (List FldD)) : Prop where
  went : Went w0 pv S0 w S
  own : OwnsR' w0.heap.size w t N v (done.map rowV)
  away : ∀ k, v.ownBlock = some k → Away w pv S k
theorem each_start (t : TypeId) (N : Nat) {w : World} {pv : Value} {S : PS} (h : IsPort w pv S) : EachAt t N w pv S w S (.slice none 0 0) [] :=
  ⟨went_refl h, OwnsR'.nil _ _ _ _, fun k hk => by cases hk⟩
theorem EachAt.alloc {t : TypeId} {N : Nat} {w0 w : World} {pv : Value} {S0 S : PS} {v : Value} {done : List (List FldD)} (h : EachAt t N w0 pv S0 w S v done) (o : Obj) : EachAt t N w0 pv S0 (w.alloc o) S v done :=
  ⟨went_grown h.went (grown_alloc w o none) (fun k hk => by cases hk), h.own.alloc o, fun k hk => ((port_kept h.went.port (grown_alloc w o none) (fun k hk => by cases hk)).2.1 k).1 (h.away k hk)⟩
/-- An item in a box of its own, to be laid. -/
theorem EachAt.lay {t : TypeId} {N : Nat} {w0 w : World} {pv : Value} {S0 S : PS} {v : Value} {done : List (List FldD)} (h : EachAt t N w0 pv S0 w S v done) (x : List FldD) (hf : S.fits (widths x)) :
    LayAt x w.heap.size t (w.alloc (.cells (cellsF x) t)) pv S 0 (w.alloc (.cells (cellsF x) t)) :=
  layAt_start (h.alloc _).went.port (heap_alloc_new w _) (((port_kept h.went.port (grown_alloc w (.cells (cellsF x) t) none) (fun k hk => by cases hk)).2.1 _).1 (port_fresh h.went.port (Nat.le_refl _))) hf
theorem owns_same {B : Nat} {w w' : World} {e : TypeId} {k : Nat} {v : Value} {l : List (List Value)} (h : OwnsR' B w e k v l) (hb : ∀ j, v.ownBlock = some j → w'.heap[j]? = w.heap[j]?) : OwnsR' B w' e k v l := by
  obtain ⟨h0, h1, ⟨rfl, h2⟩ | ⟨g, cap, cur, rfl, hbb, hg, hc, hm, hsz, ht⟩⟩ := h
  · exact ⟨h0, h1, .inl ⟨rfl, h2⟩⟩
  · exact ⟨h0, h1, .inr ⟨g, cap, cur, rfl, hbb, (hb g rfl).trans hg, hc, hm, hsz, ht⟩⟩
/-- Behind the laying. -/
theorem EachAt.laid {t : TypeId} {N : Nat} {w0 w w' : World} {pv : Value} {S0 S : PS} {v : Value} {done : List (List FldD)} {x : List FldD} (h : EachAt t N w0 pv S0 w S v done) (hx : x.length = N) (k : LayAt x w.heap.size t (w.alloc (.cells (cellsF x) t)) pv S N w') :
    EachAt t N w0 pv S0 w' (stS S x) v done ∧ w'.heap[w.heap.size]? = some (.cells (cellsF (stO S x)) t (0, 0)) ∧ w.heap.size + 1 ≤ w'.heap.size := by
  have hp := k.passed
  rw [List.take_of_length_le (by omega)] at hp
  have ha := h.alloc (.cells (cellsF x) t)
  have hrow := k.row
  have e : fieldsAt S x N = stO S x := by unfold fieldsAt; rw [List.take_of_length_le (by omega), List.drop_of_length_le (by omega), List.append_nil]
  rw [e] at hrow
  have hlt : ∀ j, v.ownBlock = some j → j < w.heap.size := fun j hj => (h.own.lt j hj).2
  refine ⟨⟨went_passed ha.went hp h.went.size, owns_same ha.own fun j hj => hp.block j (by have := hlt j hj; simp; omega) (ha.away j hj).apart (by have := hlt j hj; omega), fun j hj => hp.away j (by have := hlt j hj; simp; omega) (ha.away j hj)⟩, hrow, ?_⟩
  have := hp.size
  simpa using this
/-- Behind the append. -/
theorem EachAt.next {t : TypeId} {N : Nat} {w0 w w' : World} {pv : Value} {S0 S : PS} {v v' : Value} {done : List (List FldD)} {y : List FldD} (h : EachAt t N w0 pv S0 w S v done) (ho : OwnsR' w0.heap.size w' t N v' (done.map rowV ++ [rowV y])) (hg : w.grownBy w' v.ownBlock) (hloc : v'.ownBlock = v.ownBlock ∨ v'.ownBlock = some w.heap.size) :
    EachAt t N w0 pv S0 w' S v' (done ++ [y]) := by
  have hr : ∀ k, v.ownBlock = some k → w0.heap.size ≤ k ∧ Away w pv S k := fun k hk => ⟨(h.own.lt k hk).1, h.away k hk⟩
  obtain ⟨p1, p2, p3⟩ := port_kept h.went.port hg fun k hk => h.away k hk
  refine ⟨went_grown h.went hg hr, by rw [List.map_append]; exact ho, fun k hk => (p2 k).1 ?_⟩
  rcases hloc with e | e
  · exact h.away k (by rw [← e]; exact hk)
  · rw [e] at hk
    obtain rfl := Option.some.inj hk
    exact port_fresh h.went.port (Nat.le_refl _)
/-- 'append(all, x)', one row, with where the new slice lies. -/
theorem wpList_append_row_at {P : Program} {w : World} {ops : Array Oper} {rest : List Oper} {o : Oper} {a : Act} {Q : Exit → Act → World → Prop} (hgd : o.guard = none) (s x : Operand) (t : TypeId)
    (ho : o.op = .call { callee := .builtin .append, args := #[s, x], argTypes := #[t, t] })
    (B : Nat) (e : TypeId) (z : Value) (k bytes : Nat) (ht : P.underlying t = some (.slice e)) (hinfo : (P.info? e).map (fun i => (i.zero, i.size, i.bytes)) = some (some z, k, bytes)) (hzs : z.cells.size = k) (hk : 0 < k)
    (v : Value) (l : List (List Value)) (hs : a.eval s = v) (hown : OwnsR' B w e k v l) (g c : Nat) (r : List Value) (hx : a.eval x = .slice (some ⟨g, 0, none⟩) 1 c) (hrl : r.length = k) (hr : ∀ j u, r[j]? = some u → w.cell? ⟨g, j, none⟩ = some u) (hone : ∀ u ∈ r, u.oneCell' = true)
    (hb : (l.length + 1) * bytes ≤ 140737488355328) (hb2 : l.length + 1 ≤ maxLen) (hB : B ≤ w.heap.size)
    (h : ∀ v' w', OwnsR' B w' e k v' (l ++ [r]) → w.grownBy w' v.ownBlock → (v'.ownBlock = v.ownBlock ∨ v'.ownBlock = some w.heap.size) → wpList P ops Q rest (a.put o.dst v') w') : wpList P ops Q (o :: rest) a w := by
  obtain ⟨i0, hi, hz0, hz1, hz2⟩ := info_parts hinfo
  refine wpList_append_own_at w hgd s x t ho B e i0 z k bytes ht hi hz0 hz1 hz2 hzs hk v l.length (flatR l) hs hown.2 ⟨g, 0, none⟩ 1 c r hx (by rw [hrl, Nat.one_mul]) ?_ hone hb2 hb hB ?_
  · intro j u hu
    have hadd : (⟨g, 0, none⟩ : Addr).add j = ⟨g, j, none⟩ := by unfold Addr.add; split <;> simp_all
    rw [hadd]
    exact hr j u hu
  · intro v' w' h1 h2 _ h4
    refine h v' w' ⟨?_, ?_⟩ h2 h4
    · intro p hp
      rcases List.mem_append.1 hp with hp | hp
      · exact hown.1 p hp
      · obtain rfl : p = r := by simpa using hp
        exact hrl
    · rw [List.length_append, flatR_append]
      have e : flatR [r] = r := by simp [flatR]
      rw [e]
      exact h1
theorem below_grown0 {w w' : World} (h : Below w.heap.size w w') : w.grownBy w' none := ⟨h.os, h.tape, h.output, h.size, fun k hk _ => h.block k hk⟩
/-- Behind the laying of a list: the box holds what was laid, the port is where it is. -/
def RestPost (t lt : TypeId) (N : Nat) (w : World) (pv : Value) (S S' : PS) (gx : Nat) (done : List (List FldD)) (e : Ending) (w' : World) : Prop :=
  e = .returned (.tuple #[]) ∧ ∃ v, w'.heap[gx]? = some (.cells #[v] lt (0, 0)) ∧ OwnsR' w.heap.size w' t N v (done.map rowV) ∧ Passed gx w pv S w' S'
theorem away_ne {w : World} {pv : Value} {S : PS} {k : Nat} (h : IsPort w pv S) (hk : w.heap.size ≤ k) : Apart w pv S k := (port_fresh h hk).apart
/-- The port's own blocks are of other types. -/
theorem rest_fin {t lt : TypeId} {N : Nat} {w w2 W : World} {pv : Value} {S S' : PS} {gx : Nat} {v : Value} {u : Value} {dn : List (List FldD)} (hport : IsPort w pv S) (hq : Below w.heap.size w w2) (hlt : lt ≠ t) (hgx : gx < w.heap.size) (hax : Away w pv S gx) (nx : w.heap[gx]? = some (.cells #[u] lt (0, 0))) (h : EachAt t N w2 pv S W S' v dn) :
    RestPost t lt N w pv S S' gx dn (.returned (.tuple #[])) (W.setCell ⟨gx, 0, none⟩ v) := by
  obtain ⟨p1, p2, p3⟩ := port_kept hport (below_grown0 hq) (fun k hk => by cases hk)
  have hsz := hq.size
  have nxW : W.heap[gx]? = some (.cells #[u] lt (0, 0)) := (h.went.block gx (by omega) ((p2 gx).1 hax).apart (by omega)).trans ((hq.block gx hgx).trans nx)
  have haW : Away W pv S' gx := h.went.away gx (by omega) ((p2 gx).1 hax)
  have hgr : W.grownBy (W.setCell ⟨gx, 0, none⟩ v) (some gx) := ⟨rfl, rfl, rfl, by simp, fun k _ hk => Below.heap_setCell _ _ _ _ (fun e => hk (by rw [e]))⟩
  obtain ⟨r1, r2, r3⟩ := port_kept h.went.port hgr (fun k hk => by cases hk; exact haW)
  refine ⟨rfl, v, ?_, ?_, ?_⟩
  · rw [heap_setCell_same W gx 0 _ _ _ nxW]
    rfl
  · refine (owns_same (h.own.less hsz) fun j hj => Below.heap_setCell _ _ _ _ ?_)
    have := (h.own.lt j hj).1
    show j ≠ gx
    omega
  · refine ⟨hgr.os.trans (h.went.os.trans hq.os), hgr.tape.trans (h.went.tape.trans hq.tape), hgr.output.trans (h.went.output.trans hq.output), Nat.le_trans hsz (Nat.le_trans h.went.size hgr.size), fun i hi ha hne => ?_, fun i hi ha => (r3 i).1 (h.went.apart i (by omega) ((p3 i).1 ha)), fun i hi ha => (r2 i).1 (h.went.away i (by omega) ((p2 i).1 ha)), r1⟩
    exact (hgr.block i (by have := h.went.size; omega) (by simpa using hne)).trans ((h.went.block i (by omega) ((p3 i).1 ha) (by omega)).trans (hq.block i hi))
theorem each_shape {t : TypeId} {N : Nat} {w0 w : World} {pv : Value} {S0 S : PS} {v : Value} {done : List (List FldD)} (h : EachAt t N w0 pv S0 w S v done) : ∃ a n c, v = .slice a n c := by
  obtain ⟨a, c, e, _⟩ := h.own.reads
  exact ⟨_, _, _, e⟩
theorem port_iface {w : World} {pv : Value} {S : PS} (h : IsPort w pv S) : ∃ t a, pv = .iface t a := by
  cases S with
  | wr l f => obtain ⟨g, v, rfl, _⟩ := h; exact ⟨_, _, rfl⟩
  | rd b => obtain ⟨g, a, cap, rfl, _⟩ := h; exact ⟨_, _, rfl⟩
end Go.Proofs.YtgakidimipipeaaGreat

namespace Go.Proofs.YtgakidimipipeaaGreat
open Go.RowKit Go.Sort
set_option linter.unusedVariables false
set_option linter.unusedSimpArgs false

theorem stS_append : ∀ (l m : List FldD) (S : PS), stS S (l ++ m) = stS (stS S l) m
  | [], _, _ => rfl
  | x :: l, m, S => stS_append l m _
theorem stO_wr : ∀ (l : List FldD) (b : List Nat) (f : Bool), stO (.wr b f) l = l
  | [], _, _ => rfl
  | x :: l, b, f => by
    show (⟨x.kind, x.width, PS.numI (.wr b f) x.width x.z⟩ : FldD) :: stO (PS.next (.wr b f) x.width (u64of x.z)) l = x :: l
    have h1 : PS.numI (.wr b f) x.width x.z = x.z := rfl
    rw [h1]
    have h2 : ∃ b' f', PS.next (.wr b f) x.width (u64of x.z) = .wr b' f' := by
      unfold PS.next
      dsimp only
      split <;> exact ⟨_, _, rfl⟩
    obtain ⟨b', f', e⟩ := h2
    rw [e, stO_wr l b' f']
theorem widths_append (l m : List FldD) : widths (l ++ m) = widths l + widths m := by
  induction l with
  | nil => show widths m = 0 + widths m; omega
  | cons x l ih => show x.width + widths (l ++ m) = x.width + widths l + widths m; rw [ih]; omega
theorem next_rd (b : List Nat) (q n : Nat) : ∃ b', PS.next (.rd b) q n = .rd b' ∧ b'.length ≤ b.length ∧ (1 ≤ q → b ≠ [] → b'.length < b.length) ∧ (Bytes b → Bytes b') := by
  unfold PS.next
  dsimp only
  split
  · refine ⟨_, rfl, by simp, fun h1 h2 => ?_, fun h => h.drop _⟩
    have := List.length_pos_iff.2 h2
    simp
    omega
  · refine ⟨_, rfl, by simp, fun h1 h2 => List.length_pos_iff.2 h2, fun _ x hx => by simp at hx⟩
theorem stS_rd : ∀ (l : List FldD) (b : List Nat), ∃ b', stS (.rd b) l = .rd b' ∧ b'.length ≤ b.length ∧ (Bytes b → Bytes b')
  | [], b => ⟨b, rfl, Nat.le_refl _, id⟩
  | x :: l, b => by
    obtain ⟨b1, e1, h1, _, k1⟩ := next_rd b x.width (u64of x.z)
    obtain ⟨b2, e2, h2, k2⟩ := stS_rd l b1
    refine ⟨b2, ?_, by omega, fun h => k2 (k1 h)⟩
    show stS (PS.next (.rd b) x.width (u64of x.z)) l = _
    rw [e1, e2]
theorem stS_room2 : ∀ (l : List FldD) (b : List Nat), (∀ x ∈ l, u64of x.z < 256 ^ x.width) → stS (.wr b false) l = .wr (b ++ l.flatMap fun x => low (u64of x.z) x.width) false
  | [], b, _ => by simp [stS]
  | x :: l, b, h => by
    show stS (PS.next (.wr b false) x.width (u64of x.z)) l = _
    have h1 := h x (List.mem_cons_self ..)
    have e : PS.next (.wr b false) x.width (u64of x.z) = .wr (b ++ low (u64of x.z) x.width) false := if_pos h1
    rw [e, stS_room2 l _ fun y hy => h y (List.mem_cons_of_mem _ hy)]
    simp
def lowsU (l : List FldD) : List Nat := l.flatMap fun x => low (u64of x.z) x.width
theorem lowsU_append (l m : List FldD) : lowsU (l ++ m) = lowsU l ++ lowsU m := by unfold lowsU; rw [List.flatMap_append]
def roomU (l : List FldD) : Prop := ∀ x ∈ l, u64of x.z < 256 ^ x.width
theorem wr_room {l : List FldD} (h : roomU l) : wrF l = false ∧ wrB l = lowsU l := by
  have e := stS_room2 l [] h
  unfold wrF wrB
  rw [e]
  exact ⟨rfl, by simp [lowsU]⟩
end Go.Proofs.YtgakidimipipeaaGreat

namespace Go.Proofs.YtgakidimipipeaaGreat
open Go.RowKit Go.Sort
set_option linter.unusedVariables false
set_option linter.unusedSimpArgs false
set_option maxRecDepth 100000

def leftS (S : PS) : Nat := match S with | .wr _ _ => 0 | .rd b => b.length
def leftF (S : PS) : Nat := match S with | .wr _ _ => 141 | .rd _ => 143
def portA : Value → Value
  | .iface _ v => v
  | v => v
theorem left_is {w : World} {pv : Value} {S : PS} (h : IsPort w pv S) : Calls Tryz.prog (leftF S) #[portA pv] w fun e w' => e = .returned (.int .i64 (leftS S : Nat)) ∧ w = w' := by
  cases S with
  | wr l f =>
    obtain ⟨g, v, rfl, hw⟩ := h
    show Calls Tryz.prog 141 #[.pointer (some ⟨g, 0, none⟩)] w _
    clear hw
    go_enter Tryz.func141, Tryz.ntmps141
    go_wp2
    go_ret
    exact ⟨rfl, rfl⟩
  | rd b =>
    obtain ⟨g, a, cap, rfl, hw⟩ := h
    have c0 := cell_of_row hw.1 0
    show Calls Tryz.prog 143 #[.pointer (some ⟨g, 0, none⟩)] w _
    show Calls Tryz.prog 143 #[.pointer (some ⟨g, 0, none⟩)] w fun e w' => e = .returned (.int .i64 (b.length : Nat)) ∧ w = w'
    obtain ⟨n, hn⟩ : ∃ n, b.length = n := ⟨_, rfl⟩
    rw [hn] at c0 ⊢
    clear hw hn
    go_enter Tryz.func143, Tryz.ntmps143
    go_wp2
    go_ret
    exact ⟨rfl, rfl⟩
theorem naL_wr (n g : Nat) (w : World) (hn : 0 < n) : (nilAhead n 158 (.pointer (some ⟨g, 0, none⟩)) "Left").run Tryz.prog w = .ok (some false) w := by
  cases n with
  | zero => omega
  | succ n => kernel_rfl
theorem naL_rd (n g : Nat) (w : World) (hn : 0 < n) : (nilAhead n 203 (.pointer (some ⟨g, 0, none⟩)) "Left").run Tryz.prog w = .ok (some false) w := by
  cases n with
  | zero => omega
  | succ n => kernel_rfl
theorem mtL_wr (n g : Nat) (w : World) (hn : 0 < n) : (method n 158 (.pointer (some ⟨g, 0, none⟩)) "Left").run Tryz.prog w = .ok (141, .pointer (some ⟨g, 0, none⟩)) w := by
  cases n with
  | zero => omega
  | succ n => kernel_rfl
theorem mtL_rd (n g : Nat) (w : World) (hn : 0 < n) : (method n 203 (.pointer (some ⟨g, 0, none⟩)) "Left").run Tryz.prog w = .ok (143, .pointer (some ⟨g, 0, none⟩)) w := by
  cases n with
  | zero => omega
  | succ n => kernel_rfl
end Go.Proofs.YtgakidimipipeaaGreat

namespace Go.Proofs.YtgakidimipipeaaGreat
open Go.RowKit Go.Sort
set_option linter.unusedVariables false
set_option linter.unusedSimpArgs false
set_option maxRecDepth 100000

theorem lay_u64 {l : List FldD} {gx m : Nat} {t : TypeId} {w0 w : World} {pv : Value} {S : PS} {q : Nat} {z : Int} (h : LayAt l gx t w0 pv S m w) (hx : l[m]? = some ⟨.u64, q, z⟩) (hz : 0 ≤ z ∧ z < 18446744073709551616) (hq : 1 ≤ q) (hq8 : q ≤ 8) :
    Calls Tryz.prog 71 #[pv, .int .i64 q, .pointer (some ⟨gx, m, none⟩)] w fun e w' => e = .returned (.tuple #[]) ∧ LayAt l gx t w0 pv S (m + 1) w' := by
  obtain ⟨n, rfl⟩ := Int.eq_ofNat_of_zero_le hz.1
  have hn : n < 18446744073709551616 := by omega
  refine (pnum_u64 (h.passed.port) h.row (h.passed.away gx h.size h.away) q hq hq8 (h.fits hx) (fieldsAt_get hx) hn).mono ?_
  rintro e w' ⟨rfl, h1, h2⟩
  refine ⟨rfl, h.next hx ?_ ?_⟩
  · rw [h1]
    show some (Obj.cells (Array.setIfInBounds _ m (Value.int .u64 _)) t (0, 0)) = some (Obj.cells (Array.setIfInBounds _ m (Value.int .u64 ((stS S (l.take m)).numI q (n : Int)))) t (0, 0))
    rw [numI_nat]
  · show Passed gx w pv _ w' ((stS S (l.take m)).next q (u64of (n : Int)))
    rw [u64of_nat (by omega)]
    exact h2

def kindH (m : Nat) : IntKind := if m < 2 then .u64 else if m = 5 then .u32 else .i64
def widthH (m : Nat) : Nat := if m < 2 then 8 else if m = 5 then 4 else 2
def okH (k : IntKind) (z : Int) : Prop := match k with
  | .u64 => 0 ≤ z ∧ z < 18446744073709551616
  | .u32 => 0 ≤ z ∧ z < 4294967296
  | .i64 => I64 z
  | _ => True
/-- The fields of a header. -/
def IsHead (l : List FldD) : Prop := l.length = 6 ∧ ∀ m, m < 6 → ∃ z, l[m]? = some ⟨kindH m, widthH m, z⟩ ∧ okH (kindH m) z

set_option maxHeartbeats 1600000 in
theorem layHead_is {l : List FldD} {gx : Nat} {w0 w : World} {pv : Value} {S : PS} (hl : IsHead l) (h : LayAt l gx 72 w0 pv S 0 w) :
    Calls Tryz.prog 59 #[pv, .pointer (some ⟨gx, 0, none⟩)] w fun e w' => e = .returned (.tuple #[]) ∧ LayAt l gx 72 w0 pv S 6 w' := by
  obtain ⟨_, hl⟩ := hl
  obtain ⟨z0, e0, k0⟩ := hl 0 (by decide)
  obtain ⟨z1, e1, k1⟩ := hl 1 (by decide)
  obtain ⟨z2, e2, k2⟩ := hl 2 (by decide)
  obtain ⟨z3, e3, k3⟩ := hl 3 (by decide)
  obtain ⟨z4, e4, k4⟩ := hl 4 (by decide)
  obtain ⟨z5, e5, k5⟩ := hl 5 (by decide)
  have H := Lib.hid h
  clear hl h
  go_enter Tryz.func59, Tryz.ntmps59
  go_wp2_with fail
  refine (lay_u64 (q := 8) H.out e0 k0 (by decide) (by decide)).mono ?_
  rintro e w1 ⟨rfl, h1⟩
  have H1 := Lib.hid h1
  clear h1 H
  go_wp2_with fail
  refine (lay_u64 (q := 8) H1.out e1 k1 (by decide) (by decide)).mono ?_
  rintro e w2 ⟨rfl, h2⟩
  have H2 := Lib.hid h2
  clear h2 H1
  go_wp2_with fail
  refine (lay_i64 (q := 2) H2.out e2 k2 (by decide) (by decide)).mono ?_
  rintro e w3 ⟨rfl, h3⟩
  have H3 := Lib.hid h3
  clear h3 H2
  go_wp2_with fail
  refine (lay_i64 (q := 2) H3.out e3 k3 (by decide) (by decide)).mono ?_
  rintro e w4 ⟨rfl, h4⟩
  have H4 := Lib.hid h4
  clear h4 H3
  go_wp2_with fail
  refine (lay_i64 (q := 2) H4.out e4 k4 (by decide) (by decide)).mono ?_
  rintro e w5 ⟨rfl, h5⟩
  have H5 := Lib.hid h5
  clear h5 H4
  go_wp2_with fail
  refine (lay_u32 (q := 4) H5.out e5 k5 (by decide) (by decide)).mono ?_
  rintro e w6 ⟨rfl, h6⟩
  have H6 := Lib.hid h6
  clear h6 H5
  go_wp2
  go_end0
  exact ⟨rfl, H6.out⟩

set_option maxHeartbeats 1600000 in
theorem pwrite_head {l : List FldD} (hl : IsHead l) (hwd : widths l ≤ 2000) (w : World) :
    Calls Tryz.prog 113 #[.agg (cellsF l), .func (.func 59) #[] #[]] w fun e w' => Below w.heap.size w w' ∧
      ((wrF l = true ∧ e = .returned (.tuple #[.slice none 0 0, .int .i64 1])) ∨ (wrF l = false ∧ ∃ v, e = .returned (.tuple #[v, .int .i64 0]) ∧ Owns w.heap.size w' v (wrB l))) := by
  have b1 := below_box w (.cells (cellsF l) 72)
  have n1 := heap_alloc_new w (.cells (cellsF l) 72)
  obtain ⟨w1, hw1⟩ : ∃ w1, w.alloc (.cells (cellsF l) 72) = w1 := ⟨_, rfl⟩
  have hs1 : w1.heap.size = w.heap.size + 1 := by rw [← hw1]; simp
  rw [hw1] at b1 n1
  have b2 := below_box w1 (.cells #[.slice none 0 0, .bool false] 157)
  have hp := isPort_new w1
  have ha := fun k (hk : k < w1.heap.size) => away_new w1 hk
  have n2 := (b2.block w.heap.size (by omega)).trans n1
  have hst := layAt_start (l := l) hp n2 (ha w.heap.size (by omega)) (show ([] : List Nat).length + widths l ≤ 2000 by simpa using hwd)
  have HST := Lib.hid hst
  have HA := Lib.hid ha
  have HB2 := Lib.hid (below_next b1 b2)
  have HW1 := Lib.hid hw1
  clear b1 n1 b2 hp ha n2 hst
  go_enter Tryz.func113, Tryz.ntmps113
  go_wp2_with fail
  rw [hs1] at HST
  refine (layHead_is hl HST.out).mono ?_
  rintro e w3 ⟨rfl, h3⟩
  have hp3 := h3.passed
  rw [List.take_of_length_le (by rw [hl.1]; exact Nat.le_refl _), stS_is] at hp3
  obtain ⟨g, v, he, hw3, ho3⟩ := hp3.port
  obtain rfl : g = w.heap.size + 1 := by cases he; rfl
  have hb3 : Below w.heap.size w w3 := by
    have hb : Below w.heap.size (w1.alloc (.cells #[.slice none 0 0, .bool false] 157)) w3 := by
      refine ⟨hp3.os, hp3.tape, hp3.output, hp3.size, fun k hk => ?_⟩
      have := HA.out k (by omega)
      rw [hs1] at this
      exact hp3.block k (by simp; omega) this.apart (by omega)
    exact HB2.out.trans hb
  have hon : Owns w.heap.size w3 v (wrB l) := by
    refine owns_raise ho3 fun k hk => ?_
    have h1 := HA.out k (by omega)
    rw [hs1] at h1
    have h2 := hp3.away k (by simp; omega) h1
    exact ((away_wr ⟨hw3, ho3⟩).1 h2).2
  have c0 := cell_of_row hw3 0
  have c1 := cell_of_row hw3 1
  obtain ⟨av, lv, cpv, hv⟩ := owned_slice hon.2
  subst hv
  have HB3 := Lib.hid hb3
  have HO := Lib.hid hon
  clear hp3 hw3 ho3 hon hb3 h3 he HST HA HB2 HW1 hw1
  cases hf : wrF l with
  | true =>
    rw [hf] at c1
    go_wp2
    go_ret2
    exact ⟨HB3.out, .inl ⟨hf, rfl⟩⟩
  | false =>
    rw [hf] at c1
    go_wp2
    go_ret2
    exact ⟨HB3.out, .inr ⟨hf, _, rfl, HO.out⟩⟩


/-- No header. -/
def zeroH : List FldD := (List.range 6).map fun m => ⟨kindH m, widthH m, 0⟩
theorem zeroH_is : IsHead zeroH := by
  refine ⟨rfl, fun m hm => ⟨0, ?_, ?_⟩⟩
  · unfold zeroH
    rw [List.getElem?_map, List.getElem?_range hm]
    rfl
  · unfold okH I64
    split <;> first | trivial | omega
/-- What is read of bytes. -/
def rdH (b : List Nat) : List FldD := stO (.rd b) zeroH
theorem stO_rdw : ∀ (l : List FldD) (b : List Nat), Bytes b → (∀ x ∈ l, x.width ≤ 8) → ∀ (m : Nat) (x : FldD), l[m]? = some x → ∃ z : Int, (stO (.rd b) l)[m]? = some ⟨x.kind, x.width, z⟩ ∧ 0 ≤ z ∧ z < ((256 ^ x.width : Nat) : Int)
  | [], _, _, _, m, x, h => by simp at h
  | y :: l, b, hb, hw, 0, x, h => by
    simp only [List.getElem?_cons_zero, Option.some.injEq] at h
    subst h
    have h1 := num_lt hb y.width 0 (by have := hw y (List.mem_cons_self ..); omega)
    exact ⟨_, rfl, Int.natCast_nonneg _, by show ((PS.num (.rd b) y.width 0 : Nat) : Int) < _; exact_mod_cast h1⟩
  | y :: l, b, hb, hw, m + 1, x, h => by
    have e : ∃ b', PS.next (.rd b) y.width (u64of y.z) = .rd b' ∧ Bytes b' := by
      unfold PS.next
      dsimp only
      split
      · exact ⟨_, rfl, hb.drop _⟩
      · exact ⟨_, rfl, by intro x hx; simp at hx⟩
    obtain ⟨b', e, hb'⟩ := e
    show ∃ z, (stO (PS.next (.rd b) y.width (u64of y.z)) l)[m]? = _ ∧ _
    rw [e]
    exact stO_rdw l b' hb' (fun x hx => hw x (List.mem_cons_of_mem _ hx)) m x (by simpa using h)
theorem zeroH_width : ∀ x ∈ zeroH, x.width ≤ 8 := by decide
theorem rdH_is {b : List Nat} (hb : Bytes b) : IsHead (rdH b) := by
  refine ⟨by unfold rdH; rw [stO_length]; rfl, fun m hm => ?_⟩
  obtain ⟨z0, e0, _⟩ := zeroH_is.2 m hm
  obtain ⟨z, e, h1, h2⟩ := stO_rdw zeroH b hb zeroH_width m _ e0
  refine ⟨z, e, ?_⟩
  have hc : m = 0 ∨ m = 1 ∨ m = 2 ∨ m = 3 ∨ m = 4 ∨ m = 5 := by omega
  rcases hc with rfl | rfl | rfl | rfl | rfl | rfl
  · exact ⟨h1, by have : z < ((256 ^ 8 : Nat) : Int) := h2; omega⟩
  · exact ⟨h1, by have : z < ((256 ^ 8 : Nat) : Int) := h2; omega⟩
  · show I64 z; unfold I64; have : z < ((256 ^ 2 : Nat) : Int) := h2; omega
  · show I64 z; unfold I64; have : z < ((256 ^ 2 : Nat) : Int) := h2; omega
  · show I64 z; unfold I64; have : z < ((256 ^ 2 : Nat) : Int) := h2; omega
  · exact ⟨h1, by have : z < ((256 ^ 4 : Nat) : Int) := h2; omega⟩

theorem zero_head (w : World) : (zeroValue 72).run Tryz.prog w = .ok (.agg (cellsF zeroH)) w := by kernel_rfl
theorem size_head : (Tryz.prog.info? 72).map (·.size) = some 6 := by kernel_rfl
theorem row_head : ∃ d, Tryz.prog.underlying 72 = some d ∧ d.isRow = true := by
  cases h : Tryz.prog.underlying 72 with
  | none => exact absurd h (by decide)
  | some d =>
    refine ⟨d, rfl, ?_⟩
    have : (Tryz.prog.underlying 72).map (·.isRow) = some true := by kernel_rfl
    rw [h] at this
    simpa using this

set_option maxHeartbeats 1600000 in
theorem pread_head {b : List Nat} {a : Option Addr} {cap : Nat} (w : World) (hr : Reads w a b.length b) (hc : b.length ≤ cap) (hm : cap ≤ maxLen) :
    Calls Tryz.prog 98 #[.slice a b.length cap, .func (.func 59) #[] #[]] w fun e w' => Below w.heap.size w w' ∧ e = .returned (.agg (cellsF (rdH b))) := by
  have hz := zero_head
  obtain ⟨d, hd1, hd2⟩ := row_head
  have b1 := below_box w (.cells (cellsF zeroH) 72)
  obtain ⟨w1, hw1⟩ : ∃ w1, w.alloc (.cells (cellsF zeroH) 72) = w1 := ⟨_, rfl⟩
  have hs1 : w1.heap.size = w.heap.size + 1 := by rw [← hw1]; simp
  have n1 := heap_alloc_new w (.cells (cellsF zeroH) 72)
  rw [hw1] at b1 n1
  have hr1 := hr.below b1
  have b2 := below_box w1 (.cells (cellsF zeroH) 72)
  have n2 := heap_alloc_new w1 (.cells (cellsF zeroH) 72)
  obtain ⟨w2, hw2⟩ : ∃ w2, w1.alloc (.cells (cellsF zeroH) 72) = w2 := ⟨_, rfl⟩
  have hs2 : w2.heap.size = w.heap.size + 2 := by rw [← hw2]; simp [hs1]
  rw [hw2] at b2 n2
  have hr2 := hr1.below b2
  have n12 := (b2.block w.heap.size (by omega)).trans n1
  have b3 := below_box w2 (.cells #[.slice a b.length cap] 205)
  have hab : b ≠ [] → ∀ x, a = some x → x.block < w.heap.size := by
    intro hb x hx
    obtain ⟨_, _, h | ⟨blk, off, rfl, hlt, _⟩⟩ := hr
    · exact absurd h hb
    · cases hx; exact hlt
  have ha := fun k (hk : k < w2.heap.size) (hkw : w.heap.size ≤ k) => away_rd_new hr2 hc hm hk (fun hb x hx => Nat.ne_of_lt (Nat.lt_of_lt_of_le (hab hb x hx) hkw))
  have n23 := (b3.block (w.heap.size + 1) (by omega)).trans (hs1 ▸ n2)
  have hst := layAt_start (l := zeroH) (isPort_rd hr2 hc hm) n23 (ha (w.heap.size + 1) (by omega) (by omega)) trivial
  have HST := Lib.hid hst
  have HA := Lib.hid ha
  have HB := Lib.hid (below_next (below_next b1 b2) b3)
  have N12 := Lib.hid ((b3.block w.heap.size (by omega)).trans n12)
  have HRD := Lib.hid hr
  clear n1 n2 n12 n23 b1 b2 b3 hr1 hr2 ha hst hr hab
  go_enter Tryz.func98, Tryz.ntmps98
  go_wp2_with fail
  rw [hs2] at HST HA
  refine (layHead_is zeroH_is HST.out).mono ?_
  rintro e w3 ⟨rfl, h3⟩
  have hp3 := h3.passed
  have hrow := h3.row
  have hfd : fieldsAt (.rd b) zeroH  6 = rdH b := by
    unfold fieldsAt rdH
    rw [List.take_of_length_le (by decide), List.drop_of_length_le (by decide), List.append_nil]
  rw [hfd] at hrow
  have hb3 : Below w.heap.size w w3 := by
    refine HB.out.trans ⟨hp3.os, hp3.tape, hp3.output, hp3.size, fun k hk => ?_⟩
    refine hp3.block k (by simp; omega) ?_ (by omega)
    obtain ⟨g, a', cap', he, h⟩ := HST.out.passed.port
    obtain rfl : g = w.heap.size + 2 := by cases he; rfl
    exact (apart_rd h).2 (by omega)
  have n3 : w3.heap[w.heap.size]? = some (.cells (cellsF zeroH) 72 (0, 0)) := by
    refine (hp3.block w.heap.size (by simp; omega) (HA.out _ (by omega) (Nat.le_refl _)).apart (by omega)).trans N12.out
  have hrg := row_range hrow
  have hl15 : (rdH b).length =  6 := by unfold rdH; rw [stO_length]; rfl
  have hsz : (cellsF (rdH b)).size =  6 := by rw [cellsF_size, hl15]
  have hszl : (cellsF (rdH b)).toList.length =  6 := by simpa using hsz
  have hsi : (Tryz.prog.info? 72).map (·.size) = some (cellsF (rdH b)).size := by rw [hsz]; exact size_head
  have hsi2 : (Tryz.prog.info? 72).map (·.size) = some (cellsF (rdH b)).toList.length := by rw [hszl]; exact size_head
  have hold : (cellsF zeroH).size = (cellsF (rdH b)).size := by rw [hsz]; rfl
  have hone := cellsF_one (rdH b)
  have HB3 := Lib.hid (below_setRow (g := w.heap.size) hb3 (Nat.le_refl _) (cellsF (rdH b)))
  have hfin := setRow_heap w3 w.heap.size _ (cellsF (rdH b)) _ _ n3
  clear HST HA HB N12 h3 hp3 hb3 hfd hw1 hw2
  go_wp2_with (first
    | refine wpList_load_mid rfl 72 _ rfl (w.heap.size + 1) 0 (by go_simp) (cellsF (rdH b)).toList d hrg hd1 hd2 hsi2 ?_
    | refine wpList_store_row rfl 72 _ _ rfl w.heap.size (cellsF (rdH b)) (by go_simp) (by go_simp) _ _ n3 hsi hold hone ?_)
  refine bodyPost_ret (results_cell_row rfl _ _ w.heap.size _ _ _ d rfl hfin hd1 (by cases d <;> first | rfl | exact hd2) hsi) rfl ?_
  exact ⟨HB3.out, rfl⟩
end Go.Proofs.YtgakidimipipeaaGreat

namespace Go.Proofs.YtgakidimipipeaaGreat
open Go.RowKit Go.Sort
set_option linter.unusedVariables false
set_option linter.unusedSimpArgs false
set_option maxRecDepth 100000

set_option maxHeartbeats 1600000 in
theorem writeInode_is {l : List FldD} (hl : IsInode l) (w : World) :
    Calls Tryz.prog 6 #[.agg (cellsF l)] w fun e w' => e = .returned (.tuple #[.agg (cells (writeI l).1), .int .i64 (writeI l).2]) ∧ Below w.heap.size w w' := by
  have hz := zero_sector
  obtain ⟨d, hd1, hd2⟩ := row_inode
  have hsi : (Tryz.prog.info? 37).map (·.size) = some (rowV l).length := by unfold rowV; rw [List.length_map, hl.1]; exact size_inode
  have b1 := below_box w (.cells (cellsF l) 37)
  have n1 := heap_alloc_new w (.cells (cellsF l) 37)
  obtain ⟨w1, hw1⟩ : ∃ w1, w.alloc (.cells (cellsF l) 37) = w1 := ⟨_, rfl⟩
  have hs1 : w1.heap.size = w.heap.size + 1 := by rw [← hw1]; simp
  rw [hw1] at b1 n1
  have b2 := below_box w1 (.cells (cells noughts) 31)
  have n2 := heap_alloc_new w1 (.cells (cells noughts) 31)
  have n1' := (b2.block w.heap.size (by omega)).trans n1
  have hr1 := rowV_range n1'
  have HB := Lib.hid (below_next b1 b2)
  rw [hs1] at n2
  obtain ⟨w2, hw2⟩ : ∃ w2, w1.alloc (.cells (cells noughts) 31) = w2 := ⟨_, rfl⟩
  rw [hw2] at n2 n1' hr1 HB
  have hs2 : w2.heap.size = w.heap.size + 2 := by rw [← hw2]; simp [hs1]
  clear b1 n1 b2
  go_enter Tryz.func6, Tryz.ntmps6
  go_wp2_with (refine wpList_load_mid rfl 37 _ rfl w.heap.size 0 rfl (rowV l) d hr1 hd1 hd2 hsi ?_)
  refine (write_inode hl w2).mono ?_
  rintro e w3 ⟨rfl, b3⟩
  have n3 := (b3.block (w.heap.size + 1) (by omega)).trans n2
  have hlen := writeI_length l hl
  obtain ⟨s, hse⟩ : ∃ s, (writeI l).1 = s := ⟨_, rfl⟩
  obtain ⟨er, here⟩ : ∃ er, (writeI l).2 = er := ⟨_, rfl⟩
  have HS := Lib.hid (And.intro hse here)
  rw [hse, here]
  rw [hse] at hlen
  have hd := setRow_heap w3 (w.heap.size + 1) _ (cells s) _ _ n3
  have hb := below_setRow (g := w.heap.size + 1) (HB.out.trans (b3.mono HB.out.size)) (by omega) (cells s)
  clear b3 n1' n2 hr1 HB hw1 hw2 hs1 hs2 hse here
  go_wp2_with (refine wpList_store_sector rfl _ _ rfl (w.heap.size + 1) s rfl rfl hlen _ _ n3 rfl ?_)
  refine bodyPost_ret (results_sector rfl _ _ (w.heap.size + 1) s _ _ rfl hd hlen) rfl ?_
  exact ⟨by rw [HS.out.1, HS.out.2]; rfl, hb⟩

set_option maxHeartbeats 1600000 in
theorem readInode_is (s : List Nat) (hs : s.length = 128) (hbs : Bytes s) (w : World) :
    Calls Tryz.prog 18 #[.agg (cells s)] w fun e w' => e = .returned (.tuple #[.agg (cellsF (readI s).1), .int .i64 (readI s).2]) ∧ Below w.heap.size w w' := by
  have hz := zero_sector
  have hzi := zero_inode
  obtain ⟨d, hd1, hd2⟩ := row_inode
  have b1 := below_box w (.cells (cells s) 31)
  have n1 := heap_alloc_new w (.cells (cells s) 31)
  obtain ⟨w1, hw1⟩ : ∃ w1, w.alloc (.cells (cells s) 31) = w1 := ⟨_, rfl⟩
  have hs1 : w1.heap.size = w.heap.size + 1 := by rw [← hw1]; simp
  rw [hw1] at b1 n1
  have b2 := below_box w1 (.cells (cellsF zeroI) 37)
  have n2 := heap_alloc_new w1 (.cells (cellsF zeroI) 37)
  have n1' := (b2.block w.heap.size (by omega)).trans n1
  have HB := Lib.hid (below_next b1 b2)
  rw [hs1] at n2
  obtain ⟨w2, hw2⟩ : ∃ w2, w1.alloc (.cells (cellsF zeroI) 37) = w2 := ⟨_, rfl⟩
  rw [hw2] at n2 n1' HB
  have hs2 : w2.heap.size = w.heap.size + 2 := by rw [← hw2]; simp [hs1]
  have HC := Lib.hid (block_cells hs n1')
  clear b1 n1 b2
  go_enter Tryz.func18, Tryz.ntmps18
  go_wp2_with (refine wpList_load_sector rfl _ rfl w.heap.size 0 s rfl hs HC.out ?_)
  refine (read_inode s hs hbs w2).mono ?_
  rintro e w3 ⟨rfl, b3⟩
  have n3 := (b3.block (w.heap.size + 1) (by omega)).trans n2
  have hx15 : (readI s).1.length = 15 := by
    unfold readI
    split
    · unfold rdI; rw [stO_length]; rfl
    · rfl
  obtain ⟨x, hse⟩ : ∃ x, (readI s).1 = x := ⟨_, rfl⟩
  obtain ⟨er, here⟩ : ∃ er, (readI s).2 = er := ⟨_, rfl⟩
  have HS := Lib.hid (And.intro hse here)
  rw [hse, here]
  rw [hse] at hx15
  have hsx2 : (Tryz.prog.info? 37).map (·.size) = some (cellsF x).size := by rw [cellsF_size, hx15]; exact size_inode
  have hold : (cellsF zeroI).size = (cellsF x).size := by rw [cellsF_size, cellsF_size, hx15]; rfl
  have hone := cellsF_one x
  have hd := setRow_heap w3 (w.heap.size + 1) _ (cellsF x) _ _ n3
  have hb := below_setRow (g := w.heap.size + 1) (HB.out.trans (b3.mono HB.out.size)) (by omega) (cellsF x)
  clear b3 n1' n2 HB hw1 hw2 hs1 hs2 hse here HC
  go_wp2_with (refine wpList_store_row rfl 37 _ _ rfl (w.heap.size + 1) (cellsF x) rfl rfl _ _ n3 hsx2 hold hone ?_)
  refine bodyPost_ret (results_inode rfl _ _ (w.heap.size + 1) x _ _ rfl hd hx15) rfl ?_
  exact ⟨by rw [HS.out.1, HS.out.2]; rfl, hb⟩

theorem wpList_load_mid_want {ops : Array Oper} {rest : List Oper} {op : Oper} {a : Act} {w : World} {Q : Exit → Act → World → Prop} (hw : Region.wanted op (yielded ops a.tmps) = true) (ty : TypeId) (x : Operand) (ho : op.op = .load ty x)
    (b o : Nat) (hx : a.eval x = .pointer (some ⟨b, o, none⟩)) (cs : List Value) (d : TypeDesc) (hc : w.rangeAt b o cs)
    (hu : Tryz.prog.underlying ty = some d) (hd : d.isRow = true) (hi : (Tryz.prog.info? ty).map (·.size) = some cs.length)
    (h : wpList Tryz.prog ops Q rest (a.put op.dst (.agg cs.toArray)) w) : wpList Tryz.prog ops Q (op :: rest) a w :=
  BigFrame.wpList_want hw fun _ hK => wp_load_mid ty x ho b o hx cs d hc hu hd hi (hK _ _ h)

/-- The inode that is tried. -/
def inoOne : List FldD := [⟨.u32, 2, 3⟩, ⟨.u32, 4, 9⟩, ⟨.i64, 1, 1⟩, ⟨.i64, 4, 300⟩, ⟨.u32, 4, 0⟩, ⟨.i64, 4, 0⟩, ⟨.i64, 4, 0⟩, ⟨.i64, 4, 0⟩, ⟨.i64, 4, 0⟩, ⟨.i64, 4, 0⟩, ⟨.i64, 4, 0⟩, ⟨.i64, 4, 0⟩, ⟨.i64, 4, 0⟩, ⟨.i64, 4, 77⟩, ⟨.i64, 4, 0⟩]
theorem inoOne_is : IsInode inoOne := by
  refine ⟨rfl, fun m hm => ?_⟩
  match m, hm with
  | 0, _ => exact ⟨_, rfl, by show (0 : Int) ≤ _ ∧ _ < _; omega⟩
  | 1, _ => exact ⟨_, rfl, by show (0 : Int) ≤ _ ∧ _ < _; omega⟩
  | 2, _ => exact ⟨_, rfl, by show I64 _; unfold I64; omega⟩
  | 3, _ => exact ⟨_, rfl, by show I64 _; unfold I64; omega⟩
  | 4, _ => exact ⟨_, rfl, by show (0 : Int) ≤ _ ∧ _ < _; omega⟩
  | 5, _ => exact ⟨_, rfl, by show I64 _; unfold I64; omega⟩
  | 6, _ => exact ⟨_, rfl, by show I64 _; unfold I64; omega⟩
  | 7, _ => exact ⟨_, rfl, by show I64 _; unfold I64; omega⟩
  | 8, _ => exact ⟨_, rfl, by show I64 _; unfold I64; omega⟩
  | 9, _ => exact ⟨_, rfl, by show I64 _; unfold I64; omega⟩
  | 10, _ => exact ⟨_, rfl, by show I64 _; unfold I64; omega⟩
  | 11, _ => exact ⟨_, rfl, by show I64 _; unfold I64; omega⟩
  | 12, _ => exact ⟨_, rfl, by show I64 _; unfold I64; omega⟩
  | 13, _ => exact ⟨_, rfl, by show I64 _; unfold I64; omega⟩
  | 14, _ => exact ⟨_, rfl, by show I64 _; unfold I64; omega⟩
theorem bO_seal {k : Nat} {b : List Nat} (hk : k ≠ 0) (hb : b.length ≤ 120) : bO (sealL k b) = b := by
  unfold bO
  rw [openB_sealL hk hb, if_pos rfl, sealL_body k b hb]
theorem first_facts : (writeI inoOne).2 = 0 ∧ writeI inoOne = (sealL 2 (wrB inoOne), 0) ∧ rdI (wrB inoOne) = inoOne ∧ (writeI zeroI).2 = 1 := by
  refine ⟨by decide +kernel, ?_, by kernel_rfl, by decide +kernel⟩
  exact if_neg (by decide +kernel)
theorem run_eql_first (w : World) : (binOp .eql 37 (.agg (rowV inoOne).toArray) (.agg (rowV inoOne).toArray)).run Tryz.prog w = .ok (.bool true) w := by kernel_rfl
theorem build_first (w : World) : (Instr.build 37 #[(0, .int .u32 3), (1, .int .u32 9), (2, .int .i64 1), (3, .int .i64 300), (6, .int .i64 77)]).run Tryz.prog w = .ok (.agg (cellsF inoOne)) w := by kernel_rfl
theorem build_none (w : World) : (Instr.build 37 #[]).run Tryz.prog w = .ok (.agg (cellsF zeroI)) w := by kernel_rfl

end Go.Proofs.YtgakidimipipeaaGreat
