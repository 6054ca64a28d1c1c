/- Lists of things laid through a port, one behind the other: what holds from round to round. Things laid one behind the other: what holds of any port. How many bytes a port has left to be read. A region's header, laid through a port, written and read. The fixed fact of layer 5's laws, by its walk. A region's header, written in a sealed sector, and read back: the program's. The document's own Make, by its walks. One byte that is another one changes the sum: plainly; no program is spoken of but in the names of the lists. The laws' own turn of a sealed sector: whatever it makes, it is a sector of bytes. -/
import Derived.Test.YtgakidimipipeaaGemmbhnbp
import Derived.Test.YtgakidimipipeaaRowsOf
import Derived.Maps.AppendAt
import Derived.Test.YtgakidimipipeaaGodmhlogf
import Derived.Test.YtgakidimipipeaaGnnhdfgbn
import Derived.Test.YtgakidimipipeaaGjpofbjnn
import Derived.Test.YtgakidimipipeaaGlbhomjoi
import Derived.Test.YtgakidimipipeaaGodngmhjg
namespace Go.Proofs.Ytgakidimipipeaa
open Go.RowKit Go.Sort
set_option linter.unusedVariables false
set_option linter.unusedSimpArgs false
set_option maxRecDepth 100000

/-- The item that stands at i; behind the list, one of noughts. -/
def itemAt (z : List FldD) (L : List (List FldD)) (i : Nat) : List FldD := L.getD i z
def runS (z : List FldD) (L : List (List FldD)) (S : PS) : Nat → PS
  | 0 => S
  | i + 1 => stS (runS z L S i) (itemAt z L i)
def runD (z : List FldD) (L : List (List FldD)) (S : PS) : Nat → List (List FldD)
  | 0 => []
  | i + 1 => runD z L S i ++ [stO (runS z L S i) (itemAt z L i)]
theorem runD_length (z : List FldD) (L : List (List FldD)) (S : PS) : ∀ i, (runD z L S i).length = i
  | 0 => rfl
  | i + 1 => by show (_ ++ [_]).length = _; rw [List.length_append, runD_length z L S i]; rfl

theorem port_kept {w w' : World} {pv : Value} {S : PS} {row : Option Nat} (h : IsPort w pv S) (hg : w.grownBy w' row) (ha : ∀ k, row = some k → Away w pv S k) :
    IsPort w' pv S ∧ (∀ k, Away w pv S k ↔ Away w' pv S k) ∧ (∀ k, Apart w pv S k ↔ Apart w' pv S k) := by
  cases S with
  | wr l f =>
    obtain ⟨g, v, rfl, h1, h2⟩ := h
    have hgl : g < w.heap.size := (Array.getElem?_eq_some_iff.1 h1).1
    have hne : row ≠ some g ∧ v.ownBlock = none ∨ row ≠ some g ∧ v.ownBlock ≠ row := by
      cases row with
      | none => by_cases hv : v.ownBlock = none
                · exact .inl ⟨by simp, hv⟩
                · exact .inr ⟨by simp, hv⟩
      | some k =>
        obtain ⟨a1, a2⟩ := (away_wr ⟨h1, h2⟩).1 (ha k rfl)
        exact .inr ⟨fun e => a1 (Option.some.inj e), a2⟩
    have hw : IsWr w' g v l f := by
      refine ⟨?_, h2.1, ?_⟩
      · rw [hg.block g hgl (by rcases hne with h | h <;> exact fun e => h.1 e.symm)]
        exact h1
      · exact h2.2.kept hg (by rcases hne with h | h; exact .inl h.2; exact .inr h.2)
    exact ⟨⟨g, v, rfl, hw⟩, fun k => (away_wr ⟨h1, h2⟩).trans (away_wr hw).symm, fun k => (apart_wr ⟨h1, h2⟩).trans (apart_wr hw).symm⟩
  | rd b =>
    obtain ⟨g, a, cap, rfl, h1, h2, h3, h4, h5⟩ := h
    have hgl : g < w.heap.size := (Array.getElem?_eq_some_iff.1 h1).1
    have hrow : ∀ k, row = some k → k ≠ g ∧ (b ≠ [] → ∀ x, a = some x → x.block ≠ k) := fun k hk => (away_rd ⟨h1, h2, h3, h4, h5⟩).1 (ha k hk)
    have hw : IsRd w' g a cap b := by
      refine ⟨?_, ?_, h3, h4, h5⟩
      · rw [hg.block g hgl (fun e => (hrow g e.symm).1 rfl)]
        exact h1
      · obtain ⟨r1, r2, r3⟩ := h2
        refine ⟨r1, r2, ?_⟩
        by_cases hb : b = []
        · exact .inl hb
        · rcases r3 with r3 | ⟨blk, off, e, hbl, hc⟩
          · exact absurd r3 hb
          · refine .inr ⟨blk, off, e, Nat.lt_of_lt_of_le hbl hg.size, fun i hi => (World.cell?_of_block (a := ⟨blk, off + i, none⟩) (hg.block blk hbl (fun e2 => (hrow blk e2.symm).2 hb _ e rfl))).trans (hc i hi)⟩
    exact ⟨⟨g, a, cap, rfl, hw⟩, fun k => (away_rd ⟨h1, h2, h3, h4, h5⟩).trans (away_rd hw).symm, fun k => (apart_rd ⟨h1, h2, h3, h4, h5⟩).trans (apart_rd hw).symm⟩
theorem port_fresh {w : World} {pv : Value} {S : PS} (h : IsPort w pv S) {k : Nat} (hk : w.heap.size ≤ k) : Away w pv S k := by
  cases S with
  | wr l f =>
    obtain ⟨g, v, rfl, h1, h2⟩ := h
    have hgl : g < w.heap.size := (Array.getElem?_eq_some_iff.1 h1).1
    refine (away_wr ⟨h1, h2⟩).2 ⟨by omega, fun e => ?_⟩
    have := (World.ownsRow.lt h2.2 k e).2
    omega
  | rd b =>
    obtain ⟨g, a, cap, rfl, h1, h2, h3, h4, h5⟩ := h
    have hgl : g < w.heap.size := (Array.getElem?_eq_some_iff.1 h1).1
    refine (away_rd ⟨h1, h2, h3, h4, h5⟩).2 ⟨by omega, fun hb x hx => ?_⟩
    obtain ⟨_, _, h | ⟨blk, off, e, hbl, _⟩⟩ := h2
    · exact absurd h hb
    · rw [hx] at e
      obtain rfl := Option.some.inj e
      show blk ≠ k
      omega
/-- From w0 to w the port has been used, and there are new blocks. -/
abbrev Went (w0 : World) (pv : Value) (S0 : PS) (w : World) (S : PS) : Prop := Passed w0.heap.size w0 pv S0 w S
theorem went_refl {w : World} {pv : Value} {S : PS} (h : IsPort w pv S) : Went w pv S w S := ⟨rfl, rfl, rfl, Nat.le_refl _, fun _ _ _ _ => rfl, fun _ _ h => h, fun _ _ h => h, h⟩
theorem went_passed {w0 w w' : World} {pv : Value} {S0 S S' : PS} {gx : Nat} (h : Went w0 pv S0 w S) (k : Passed gx w pv S w' S') (hx : w0.heap.size ≤ gx) : Went w0 pv S0 w' S' :=
  ⟨k.os.trans h.os, k.tape.trans h.tape, k.output.trans h.output, Nat.le_trans h.size k.size,
    fun i hi ha hne => (k.block i (Nat.lt_of_lt_of_le hi h.size) (h.apart i hi ha) (by omega)).trans (h.block i hi ha hne), fun i hi ha => k.apart i (Nat.lt_of_lt_of_le hi h.size) (h.apart i hi ha), fun i hi ha => k.away i (Nat.lt_of_lt_of_le hi h.size) (h.away i hi ha), k.port⟩
theorem went_grown {w0 w w' : World} {pv : Value} {S0 S : PS} {row : Option Nat} (h : Went w0 pv S0 w S) (hg : w.grownBy w' row) (hr : ∀ k, row = some k → w0.heap.size ≤ k ∧ Away w pv S k) : Went w0 pv S0 w' S := by
  obtain ⟨p1, p2, p3⟩ := port_kept h.port hg fun k hk => (hr k hk).2
  exact ⟨hg.os.trans h.os, hg.tape.trans h.tape, hg.output.trans h.output, Nat.le_trans h.size hg.size,
    fun i hi ha hne => (hg.block i (Nat.lt_of_lt_of_le hi h.size) (fun e => by have := (hr i e.symm).1; omega)).trans (h.block i hi ha hne), fun i hi ha => (p3 i).1 (h.apart i hi ha), fun i hi ha => (p2 i).1 (h.away i hi ha), p1⟩
theorem grown_alloc (w : World) (o : Obj) (row : Option Nat) : w.grownBy (w.alloc o) row := ⟨rfl, rfl, rfl, by simp, fun k hk _ => Below.heap_alloc _ _ _ (by omega)⟩

/-- At the head of a round: what was laid so far is owned, and the port is where it is. -/
structure EachAt (t : TypeId) (N : Nat) (w0 : World) (pv : Value) (S0 : PS) (w : World) (S : PS) (v : Value) (done : List (List FldD)) : Prop where
  went : Went w0 pv S0 w S
  own : OwnsR' w0.heap.size w t N v (done.map rowV)
  away : ∀ k, v.ownBlock = some k → Away w pv S k
theorem each_start (t : TypeId) (N : Nat) {w : World} {pv : Value} {S : PS} (h : IsPort w pv S) : EachAt t N w pv S w S (.slice none 0 0) [] :=
  ⟨went_refl h, OwnsR'.nil _ _ _ _, fun k hk => by cases hk⟩
theorem EachAt.alloc {t : TypeId} {N : Nat} {w0 w : World} {pv : Value} {S0 S : PS} {v : Value} {done : List (List FldD)} (h : EachAt t N w0 pv S0 w S v done) (o : Obj) : EachAt t N w0 pv S0 (w.alloc o) S v done :=
  ⟨went_grown h.went (grown_alloc w o none) (fun k hk => by cases hk), h.own.alloc o, fun k hk => ((port_kept h.went.port (grown_alloc w o none) (fun k hk => by cases hk)).2.1 k).1 (h.away k hk)⟩
/-- An item in a box of its own, to be laid. -/
theorem EachAt.lay {t : TypeId} {N : Nat} {w0 w : World} {pv : Value} {S0 S : PS} {v : Value} {done : List (List FldD)} (h : EachAt t N w0 pv S0 w S v done) (x : List FldD) (hf : S.fits (widths x)) :
    LayAt x w.heap.size t (w.alloc (.cells (cellsF x) t)) pv S 0 (w.alloc (.cells (cellsF x) t)) :=
  layAt_start (h.alloc _).went.port (heap_alloc_new w _) (((port_kept h.went.port (grown_alloc w (.cells (cellsF x) t) none) (fun k hk => by cases hk)).2.1 _).1 (port_fresh h.went.port (Nat.le_refl _))) hf
theorem owns_same {B : Nat} {w w' : World} {e : TypeId} {k : Nat} {v : Value} {l : List (List Value)} (h : OwnsR' B w e k v l) (hb : ∀ j, v.ownBlock = some j → w'.heap[j]? = w.heap[j]?) : OwnsR' B w' e k v l := by
  obtain ⟨h0, h1, ⟨rfl, h2⟩ | ⟨g, cap, cur, rfl, hbb, hg, hc, hm, hsz, ht⟩⟩ := h
  · exact ⟨h0, h1, .inl ⟨rfl, h2⟩⟩
  · exact ⟨h0, h1, .inr ⟨g, cap, cur, rfl, hbb, (hb g rfl).trans hg, hc, hm, hsz, ht⟩⟩
/-- Behind the laying. -/
theorem EachAt.laid {t : TypeId} {N : Nat} {w0 w w' : World} {pv : Value} {S0 S : PS} {v : Value} {done : List (List FldD)} {x : List FldD} (h : EachAt t N w0 pv S0 w S v done) (hx : x.length = N) (k : LayAt x w.heap.size t (w.alloc (.cells (cellsF x) t)) pv S N w') :
    EachAt t N w0 pv S0 w' (stS S x) v done ∧ w'.heap[w.heap.size]? = some (.cells (cellsF (stO S x)) t (0, 0)) ∧ w.heap.size + 1 ≤ w'.heap.size := by
  have hp := k.passed
  rw [List.take_of_length_le (by omega)] at hp
  have ha := h.alloc (.cells (cellsF x) t)
  have hrow := k.row
  have e : fieldsAt S x N = stO S x := by unfold fieldsAt; rw [List.take_of_length_le (by omega), List.drop_of_length_le (by omega), List.append_nil]
  rw [e] at hrow
  have hlt : ∀ j, v.ownBlock = some j → j < w.heap.size := fun j hj => (h.own.lt j hj).2
  refine ⟨⟨went_passed ha.went hp h.went.size, owns_same ha.own fun j hj => hp.block j (by have := hlt j hj; simp; omega) (ha.away j hj).apart (by have := hlt j hj; omega), fun j hj => hp.away j (by have := hlt j hj; simp; omega) (ha.away j hj)⟩, hrow, ?_⟩
  have := hp.size
  simpa using this
/-- Behind the append. -/
theorem EachAt.next {t : TypeId} {N : Nat} {w0 w w' : World} {pv : Value} {S0 S : PS} {v v' : Value} {done : List (List FldD)} {y : List FldD} (h : EachAt t N w0 pv S0 w S v done) (ho : OwnsR' w0.heap.size w' t N v' (done.map rowV ++ [rowV y])) (hg : w.grownBy w' v.ownBlock) (hloc : v'.ownBlock = v.ownBlock ∨ v'.ownBlock = some w.heap.size) :
    EachAt t N w0 pv S0 w' S v' (done ++ [y]) := by
  have hr : ∀ k, v.ownBlock = some k → w0.heap.size ≤ k ∧ Away w pv S k := fun k hk => ⟨(h.own.lt k hk).1, h.away k hk⟩
  obtain ⟨p1, p2, p3⟩ := port_kept h.went.port hg fun k hk => h.away k hk
  refine ⟨went_grown h.went hg hr, by rw [List.map_append]; exact ho, fun k hk => (p2 k).1 ?_⟩
  rcases hloc with e | e
  · exact h.away k (by rw [← e]; exact hk)
  · rw [e] at hk
    obtain rfl := Option.some.inj hk
    exact port_fresh h.went.port (Nat.le_refl _)
/-- 'append(all, x)', one row, with where the new slice lies. -/
theorem wpList_append_row_at {P : Program} {w : World} {ops : Array Oper} {rest : List Oper} {o : Oper} {a : Act} {Q : Exit → Act → World → Prop} (hgd : o.guard = none) (s x : Operand) (t : TypeId)
    (ho : o.op = .call { callee := .builtin .append, args := #[s, x], argTypes := #[t, t] })
    (B : Nat) (e : TypeId) (z : Value) (k bytes : Nat) (ht : P.underlying t = some (.slice e)) (hinfo : (P.info? e).map (fun i => (i.zero, i.size, i.bytes)) = some (some z, k, bytes)) (hzs : z.cells.size = k) (hk : 0 < k)
    (v : Value) (l : List (List Value)) (hs : a.eval s = v) (hown : OwnsR' B w e k v l) (g c : Nat) (r : List Value) (hx : a.eval x = .slice (some ⟨g, 0, none⟩) 1 c) (hrl : r.length = k) (hr : ∀ j u, r[j]? = some u → w.cell? ⟨g, j, none⟩ = some u) (hone : ∀ u ∈ r, u.oneCell' = true)
    (hb : (l.length + 1) * bytes ≤ 140737488355328) (hb2 : l.length + 1 ≤ maxLen) (hB : B ≤ w.heap.size)
    (h : ∀ v' w', OwnsR' B w' e k v' (l ++ [r]) → w.grownBy w' v.ownBlock → (v'.ownBlock = v.ownBlock ∨ v'.ownBlock = some w.heap.size) → wpList P ops Q rest (a.put o.dst v') w') : wpList P ops Q (o :: rest) a w := by
  obtain ⟨i0, hi, hz0, hz1, hz2⟩ := info_parts hinfo
  refine wpList_append_own_at w hgd s x t ho B e i0 z k bytes ht hi hz0 hz1 hz2 hzs hk v l.length (flatR l) hs hown.2 ⟨g, 0, none⟩ 1 c r hx (by rw [hrl, Nat.one_mul]) ?_ hone hb2 hb hB ?_
  · intro j u hu
    have hadd : (⟨g, 0, none⟩ : Addr).add j = ⟨g, j, none⟩ := by unfold Addr.add; split <;> simp_all
    rw [hadd]
    exact hr j u hu
  · intro v' w' h1 h2 _ h4
    refine h v' w' ⟨?_, ?_⟩ h2 h4
    · intro p hp
      rcases List.mem_append.1 hp with hp | hp
      · exact hown.1 p hp
      · obtain rfl : p = r := by simpa using hp
        exact hrl
    · rw [List.length_append, flatR_append]
      have e : flatR [r] = r := by simp [flatR]
      rw [e]
      exact h1
theorem below_grown0 {w w' : World} (h : Below w.heap.size w w') : w.grownBy w' none := ⟨h.os, h.tape, h.output, h.size, fun k hk _ => h.block k hk⟩
/-- Behind the laying of a list: the box holds what was laid, the port is where it is. -/
def RestPost (t lt : TypeId) (N : Nat) (w : World) (pv : Value) (S S' : PS) (gx : Nat) (done : List (List FldD)) (e : Ending) (w' : World) : Prop :=
  e = .returned (.tuple #[]) ∧ ∃ v, w'.heap[gx]? = some (.cells #[v] lt (0, 0)) ∧ OwnsR' w.heap.size w' t N v (done.map rowV) ∧ Passed gx w pv S w' S'
theorem away_ne {w : World} {pv : Value} {S : PS} {k : Nat} (h : IsPort w pv S) (hk : w.heap.size ≤ k) : Apart w pv S k := (port_fresh h hk).apart
/-- The port's own blocks are of other types. -/
theorem rest_fin {t lt : TypeId} {N : Nat} {w w2 W : World} {pv : Value} {S S' : PS} {gx : Nat} {v : Value} {u : Value} {dn : List (List FldD)} (hport : IsPort w pv S) (hq : Below w.heap.size w w2) (hlt : lt ≠ t) (hgx : gx < w.heap.size) (hax : Away w pv S gx) (nx : w.heap[gx]? = some (.cells #[u] lt (0, 0))) (h : EachAt t N w2 pv S W S' v dn) :
    RestPost t lt N w pv S S' gx dn (.returned (.tuple #[])) (W.setCell ⟨gx, 0, none⟩ v) := by
  obtain ⟨p1, p2, p3⟩ := port_kept hport (below_grown0 hq) (fun k hk => by cases hk)
  have hsz := hq.size
  have nxW : W.heap[gx]? = some (.cells #[u] lt (0, 0)) := (h.went.block gx (by omega) ((p2 gx).1 hax).apart (by omega)).trans ((hq.block gx hgx).trans nx)
  have haW : Away W pv S' gx := h.went.away gx (by omega) ((p2 gx).1 hax)
  have hgr : W.grownBy (W.setCell ⟨gx, 0, none⟩ v) (some gx) := ⟨rfl, rfl, rfl, by simp, fun k _ hk => Below.heap_setCell _ _ _ _ (fun e => hk (by rw [e]))⟩
  obtain ⟨r1, r2, r3⟩ := port_kept h.went.port hgr (fun k hk => by cases hk; exact haW)
  refine ⟨rfl, v, ?_, ?_, ?_⟩
  · rw [heap_setCell_same W gx 0 _ _ _ nxW]
    rfl
  · refine (owns_same (h.own.less hsz) fun j hj => Below.heap_setCell _ _ _ _ ?_)
    have := (h.own.lt j hj).1
    show j ≠ gx
    omega
  · refine ⟨hgr.os.trans (h.went.os.trans hq.os), hgr.tape.trans (h.went.tape.trans hq.tape), hgr.output.trans (h.went.output.trans hq.output), Nat.le_trans hsz (Nat.le_trans h.went.size hgr.size), fun i hi ha hne => ?_, fun i hi ha => (r3 i).1 (h.went.apart i (by omega) ((p3 i).1 ha)), fun i hi ha => (r2 i).1 (h.went.away i (by omega) ((p2 i).1 ha)), r1⟩
    exact (hgr.block i (by have := h.went.size; omega) (by simpa using hne)).trans ((h.went.block i (by omega) ((p3 i).1 ha) (by omega)).trans (hq.block i hi))
theorem each_shape {t : TypeId} {N : Nat} {w0 w : World} {pv : Value} {S0 S : PS} {v : Value} {done : List (List FldD)} (h : EachAt t N w0 pv S0 w S v done) : ∃ a n c, v = .slice a n c := by
  obtain ⟨a, c, e, _⟩ := h.own.reads
  exact ⟨_, _, _, e⟩
theorem port_iface {w : World} {pv : Value} {S : PS} (h : IsPort w pv S) : ∃ t a, pv = .iface t a := by
  cases S with
  | wr l f => obtain ⟨g, v, rfl, _⟩ := h; exact ⟨_, _, rfl⟩
  | rd b => obtain ⟨g, a, cap, rfl, _⟩ := h; exact ⟨_, _, rfl⟩
end Go.Proofs.Ytgakidimipipeaa

namespace Go.Proofs.Ytgakidimipipeaa
open Go.RowKit Go.Sort
set_option linter.unusedVariables false
set_option linter.unusedSimpArgs false

theorem stS_append : ∀ (l m : List FldD) (S : PS), stS S (l ++ m) = stS (stS S l) m
  | [], _, _ => rfl
  | x :: l, m, S => stS_append l m _
theorem stO_wr : ∀ (l : List FldD) (b : List Nat) (f : Bool), stO (.wr b f) l = l
  | [], _, _ => rfl
  | x :: l, b, f => by
    show (⟨x.kind, x.width, PS.numI (.wr b f) x.width x.z⟩ : FldD) :: stO (PS.next (.wr b f) x.width (u64of x.z)) l = x :: l
    have h1 : PS.numI (.wr b f) x.width x.z = x.z := rfl
    rw [h1]
    have h2 : ∃ b' f', PS.next (.wr b f) x.width (u64of x.z) = .wr b' f' := by
      unfold PS.next
      dsimp only
      split <;> exact ⟨_, _, rfl⟩
    obtain ⟨b', f', e⟩ := h2
    rw [e, stO_wr l b' f']
theorem widths_append (l m : List FldD) : widths (l ++ m) = widths l + widths m := by
  induction l with
  | nil => show widths m = 0 + widths m; omega
  | cons x l ih => show x.width + widths (l ++ m) = x.width + widths l + widths m; rw [ih]; omega
theorem next_rd (b : List Nat) (q n : Nat) : ∃ b', PS.next (.rd b) q n = .rd b' ∧ b'.length ≤ b.length ∧ (1 ≤ q → b ≠ [] → b'.length < b.length) ∧ (Bytes b → Bytes b') := by
  unfold PS.next
  dsimp only
  split
  · refine ⟨_, rfl, by simp, fun h1 h2 => ?_, fun h => h.drop _⟩
    have := List.length_pos_iff.2 h2
    simp
    omega
  · refine ⟨_, rfl, by simp, fun h1 h2 => List.length_pos_iff.2 h2, fun _ x hx => by simp at hx⟩
theorem stS_rd : ∀ (l : List FldD) (b : List Nat), ∃ b', stS (.rd b) l = .rd b' ∧ b'.length ≤ b.length ∧ (Bytes b → Bytes b')
  | [], b => ⟨b, rfl, Nat.le_refl _, id⟩
  | x :: l, b => by
    obtain ⟨b1, e1, h1, _, k1⟩ := next_rd b x.width (u64of x.z)
    obtain ⟨b2, e2, h2, k2⟩ := stS_rd l b1
    refine ⟨b2, ?_, by omega, fun h => k2 (k1 h)⟩
    show stS (PS.next (.rd b) x.width (u64of x.z)) l = _
    rw [e1, e2]
theorem stS_room2 : ∀ (l : List FldD) (b : List Nat), (∀ x ∈ l, u64of x.z < 256 ^ x.width) → stS (.wr b false) l = .wr (b ++ l.flatMap fun x => low (u64of x.z) x.width) false
  | [], b, _ => by simp [stS]
  | x :: l, b, h => by
    show stS (PS.next (.wr b false) x.width (u64of x.z)) l = _
    have h1 := h x (List.mem_cons_self ..)
    have e : PS.next (.wr b false) x.width (u64of x.z) = .wr (b ++ low (u64of x.z) x.width) false := if_pos h1
    rw [e, stS_room2 l _ fun y hy => h y (List.mem_cons_of_mem _ hy)]
    simp
def lowsU (l : List FldD) : List Nat := l.flatMap fun x => low (u64of x.z) x.width
theorem lowsU_append (l m : List FldD) : lowsU (l ++ m) = lowsU l ++ lowsU m := by unfold lowsU; rw [List.flatMap_append]
def roomU (l : List FldD) : Prop := ∀ x ∈ l, u64of x.z < 256 ^ x.width
theorem wr_room {l : List FldD} (h : roomU l) : wrF l = false ∧ wrB l = lowsU l := by
  have e := stS_room2 l [] h
  unfold wrF wrB
  rw [e]
  exact ⟨rfl, by simp [lowsU]⟩
end Go.Proofs.Ytgakidimipipeaa

namespace Go.Proofs.Ytgakidimipipeaa
open Go.RowKit Go.Sort
set_option linter.unusedVariables false
set_option linter.unusedSimpArgs false
set_option maxRecDepth 100000

def leftS (S : PS) : Nat := match S with | .wr _ _ => 0 | .rd b => b.length
def leftF (S : PS) : Nat := match S with | .wr _ _ => 160 | .rd _ => 162
def portA : Value → Value
  | .iface _ v => v
  | v => v
theorem left_is {w : World} {pv : Value} {S : PS} (h : IsPort w pv S) : Calls Try.prog (leftF S) #[portA pv] w fun e w' => e = .returned (.int .i64 (leftS S : Nat)) ∧ w = w' := by
  cases S with
  | wr l f =>
    obtain ⟨g, v, rfl, hw⟩ := h
    show Calls Try.prog 160 #[.pointer (some ⟨g, 0, none⟩)] w _
    clear hw
    go_enter Try.func160, Try.ntmps160
    go_wp2
    go_ret
    exact ⟨rfl, rfl⟩
  | rd b =>
    obtain ⟨g, a, cap, rfl, hw⟩ := h
    have c0 := cell_of_row hw.1 0
    show Calls Try.prog 162 #[.pointer (some ⟨g, 0, none⟩)] w _
    show Calls Try.prog 162 #[.pointer (some ⟨g, 0, none⟩)] w fun e w' => e = .returned (.int .i64 (b.length : Nat)) ∧ w = w'
    obtain ⟨n, hn⟩ : ∃ n, b.length = n := ⟨_, rfl⟩
    rw [hn] at c0 ⊢
    clear hw hn
    go_enter Try.func162, Try.ntmps162
    go_wp2
    go_ret
    exact ⟨rfl, rfl⟩
theorem naL_wr (n g : Nat) (w : World) (hn : 0 < n) : (nilAhead n 205 (.pointer (some ⟨g, 0, none⟩)) "Left").run Try.prog w = .ok (some false) w := by
  cases n with
  | zero => omega
  | succ n => kernel_rfl
theorem naL_rd (n g : Nat) (w : World) (hn : 0 < n) : (nilAhead n 218 (.pointer (some ⟨g, 0, none⟩)) "Left").run Try.prog w = .ok (some false) w := by
  cases n with
  | zero => omega
  | succ n => kernel_rfl
theorem mtL_wr (n g : Nat) (w : World) (hn : 0 < n) : (method n 205 (.pointer (some ⟨g, 0, none⟩)) "Left").run Try.prog w = .ok (160, .pointer (some ⟨g, 0, none⟩)) w := by
  cases n with
  | zero => omega
  | succ n => kernel_rfl
theorem mtL_rd (n g : Nat) (w : World) (hn : 0 < n) : (method n 218 (.pointer (some ⟨g, 0, none⟩)) "Left").run Try.prog w = .ok (162, .pointer (some ⟨g, 0, none⟩)) w := by
  cases n with
  | zero => omega
  | succ n => kernel_rfl
end Go.Proofs.Ytgakidimipipeaa

namespace Go.Proofs.Ytgakidimipipeaa
open Go.RowKit Go.Sort
set_option linter.unusedVariables false
set_option linter.unusedSimpArgs false
set_option maxRecDepth 100000

def kindH (m : Nat) : IntKind := if m < 2 then .u64 else if m = 5 then .u32 else .i64
def widthH (m : Nat) : Nat := if m < 2 then 8 else if m = 5 then 4 else 2
def okH (k : IntKind) (z : Int) : Prop := match k with
  | .u64 => 0 ≤ z ∧ z < 18446744073709551616
  | .u32 => 0 ≤ z ∧ z < 4294967296
  | .i64 => I64 z
  | _ => True
/-- The fields of a header. -/
def IsHead (l : List FldD) : Prop := l.length = 6 ∧ ∀ m, m < 6 → ∃ z, l[m]? = some ⟨kindH m, widthH m, z⟩ ∧ okH (kindH m) z

/-- No header. -/
def zeroH : List FldD := (List.range 6).map fun m => ⟨kindH m, widthH m, 0⟩
theorem zeroH_is : IsHead zeroH := by
  refine ⟨rfl, fun m hm => ⟨0, ?_, ?_⟩⟩
  · unfold zeroH
    rw [List.getElem?_map, List.getElem?_range hm]
    rfl
  · unfold okH I64
    split <;> first | trivial | omega
/-- What is read of bytes. -/
def rdH (b : List Nat) : List FldD := stO (.rd b) zeroH
theorem stO_rdw : ∀ (l : List FldD) (b : List Nat), Bytes b → (∀ x ∈ l, x.width ≤ 8) → ∀ (m : Nat) (x : FldD), l[m]? = some x → ∃ z : Int, (stO (.rd b) l)[m]? = some ⟨x.kind, x.width, z⟩ ∧ 0 ≤ z ∧ z < ((256 ^ x.width : Nat) : Int)
  | [], _, _, _, m, x, h => by simp at h
  | y :: l, b, hb, hw, 0, x, h => by
    simp only [List.getElem?_cons_zero, Option.some.injEq] at h
    subst h
    have h1 := num_lt hb y.width 0 (by have := hw y (List.mem_cons_self ..); omega)
    exact ⟨_, rfl, Int.natCast_nonneg _, by show ((PS.num (.rd b) y.width 0 : Nat) : Int) < _; exact_mod_cast h1⟩
  | y :: l, b, hb, hw, m + 1, x, h => by
    have e : ∃ b', PS.next (.rd b) y.width (u64of y.z) = .rd b' ∧ Bytes b' := by
      unfold PS.next
      dsimp only
      split
      · exact ⟨_, rfl, hb.drop _⟩
      · exact ⟨_, rfl, by intro x hx; simp at hx⟩
    obtain ⟨b', e, hb'⟩ := e
    show ∃ z, (stO (PS.next (.rd b) y.width (u64of y.z)) l)[m]? = _ ∧ _
    rw [e]
    exact stO_rdw l b' hb' (fun x hx => hw x (List.mem_cons_of_mem _ hx)) m x (by simpa using h)
theorem zeroH_width : ∀ x ∈ zeroH, x.width ≤ 8 := by decide
theorem rdH_is {b : List Nat} (hb : Bytes b) : IsHead (rdH b) := by
  refine ⟨by unfold rdH; rw [stO_length]; rfl, fun m hm => ?_⟩
  obtain ⟨z0, e0, _⟩ := zeroH_is.2 m hm
  obtain ⟨z, e, h1, h2⟩ := stO_rdw zeroH b hb zeroH_width m _ e0
  refine ⟨z, e, ?_⟩
  have hc : m = 0 ∨ m = 1 ∨ m = 2 ∨ m = 3 ∨ m = 4 ∨ m = 5 := by omega
  rcases hc with rfl | rfl | rfl | rfl | rfl | rfl
  · exact ⟨h1, by have : z < ((256 ^ 8 : Nat) : Int) := h2; omega⟩
  · exact ⟨h1, by have : z < ((256 ^ 8 : Nat) : Int) := h2; omega⟩
  · show I64 z; unfold I64; have : z < ((256 ^ 2 : Nat) : Int) := h2; omega
  · show I64 z; unfold I64; have : z < ((256 ^ 2 : Nat) : Int) := h2; omega
  · show I64 z; unfold I64; have : z < ((256 ^ 2 : Nat) : Int) := h2; omega
  · exact ⟨h1, by have : z < ((256 ^ 4 : Nat) : Int) := h2; omega⟩

end Go.Proofs.Ytgakidimipipeaa

namespace Go.Proofs.Ytgakidimipipeaa
open Go.RowKit Go.Sort
set_option linter.unusedVariables false
set_option linter.unusedSimpArgs false
set_option maxRecDepth 100000

theorem wpList_load_mid_want {ops : Array Oper} {rest : List Oper} {op : Oper} {a : Act} {w : World} {Q : Exit → Act → World → Prop} (hw : Region.wanted op (yielded ops a.tmps) = true) (ty : TypeId) (x : Operand) (ho : op.op = .load ty x)
    (b o : Nat) (hx : a.eval x = .pointer (some ⟨b, o, none⟩)) (cs : List Value) (d : TypeDesc) (hc : w.rangeAt b o cs)
    (hu : Try.prog.underlying ty = some d) (hd : d.isRow = true) (hi : (Try.prog.info? ty).map (·.size) = some cs.length)
    (h : wpList Try.prog ops Q rest (a.put op.dst (.agg cs.toArray)) w) : wpList Try.prog ops Q (op :: rest) a w :=
  BigFrame.wpList_want hw fun _ hK => wp_load_mid ty x ho b o hx cs d hc hu hd hi (hK _ _ h)

/-- The inode that is tried. -/
def inoOne : List FldD := [⟨.u32, 2, 3⟩, ⟨.u32, 4, 9⟩, ⟨.i64, 1, 1⟩, ⟨.i64, 4, 300⟩, ⟨.u32, 4, 0⟩, ⟨.i64, 4, 0⟩, ⟨.i64, 4, 0⟩, ⟨.i64, 4, 0⟩, ⟨.i64, 4, 0⟩, ⟨.i64, 4, 0⟩, ⟨.i64, 4, 0⟩, ⟨.i64, 4, 0⟩, ⟨.i64, 4, 0⟩, ⟨.i64, 4, 77⟩, ⟨.i64, 4, 0⟩]
theorem inoOne_is : IsInode inoOne := by
  refine ⟨rfl, fun m hm => ?_⟩
  match m, hm with
  | 0, _ => exact ⟨_, rfl, by show (0 : Int) ≤ _ ∧ _ < _; omega⟩
  | 1, _ => exact ⟨_, rfl, by show (0 : Int) ≤ _ ∧ _ < _; omega⟩
  | 2, _ => exact ⟨_, rfl, by show I64 _; unfold I64; omega⟩
  | 3, _ => exact ⟨_, rfl, by show I64 _; unfold I64; omega⟩
  | 4, _ => exact ⟨_, rfl, by show (0 : Int) ≤ _ ∧ _ < _; omega⟩
  | 5, _ => exact ⟨_, rfl, by show I64 _; unfold I64; omega⟩
  | 6, _ => exact ⟨_, rfl, by show I64 _; unfold I64; omega⟩
  | 7, _ => exact ⟨_, rfl, by show I64 _; unfold I64; omega⟩
  | 8, _ => exact ⟨_, rfl, by show I64 _; unfold I64; omega⟩
  | 9, _ => exact ⟨_, rfl, by show I64 _; unfold I64; omega⟩
  | 10, _ => exact ⟨_, rfl, by show I64 _; unfold I64; omega⟩
  | 11, _ => exact ⟨_, rfl, by show I64 _; unfold I64; omega⟩
  | 12, _ => exact ⟨_, rfl, by show I64 _; unfold I64; omega⟩
  | 13, _ => exact ⟨_, rfl, by show I64 _; unfold I64; omega⟩
  | 14, _ => exact ⟨_, rfl, by show I64 _; unfold I64; omega⟩
theorem bO_seal {k : Nat} {b : List Nat} (hk : k ≠ 0) (hb : b.length ≤ 120) : bO (sealL k b) = b := by
  unfold bO
  rw [openB_sealL hk hb, if_pos rfl, sealL_body k b hb]
theorem first_facts : (writeI inoOne).2 = 0 ∧ writeI inoOne = (sealL 2 (wrB inoOne), 0) ∧ rdI (wrB inoOne) = inoOne ∧ (writeI zeroI).2 = 1 := by
  refine ⟨by decide +kernel, ?_, by kernel_rfl, by decide +kernel⟩
  exact if_neg (by decide +kernel)
end Go.Proofs.Ytgakidimipipeaa

namespace Go.Proofs.Ytgakidimipipeaa
open Go.RowKit Go.Sort
set_option linter.unusedVariables false
set_option linter.unusedSimpArgs false
set_option maxRecDepth 100000

theorem head_widths {l : List FldD} (h : IsHead l) : widths l = 26 := by
  have e : l.map (·.width) = (List.range 6).map widthH := by
    apply List.ext_getElem?
    intro m
    by_cases hm : m < 6
    · obtain ⟨z, hz, _⟩ := h.2 m hm
      rw [List.getElem?_map, List.getElem?_map, hz, List.getElem?_range hm]
      rfl
    · rw [List.getElem?_eq_none (by simp [h.1]; omega), List.getElem?_eq_none (by simp; omega)]
  rw [widths_sum, e]
  decide
def mayH (l : List FldD) : Bool := true
def writeH (l : List FldD) : List Nat × Int := if mayH l = false ∨ wrF l = true then (noughts, 1) else (sealL 6 (wrB l), 0)
/-! ### Read -/
def readH (s : List Nat) : List FldD × Int := if (writeH (rdH (bO s))).2 = 0 ∧ (writeH (rdH (bO s))).1 = s then (rdH (bO s), 0) else (zeroH, 21)
theorem writeH_length (l : List FldD) (h : IsHead l) : (writeH l).1.length = 128 := by
  unfold writeH
  split
  · rfl
  · exact sealL_length (by rw [wrB_length, head_widths h]; decide)

end Go.Proofs.Ytgakidimipipeaa

namespace Go.Proofs.Ytgakidimipipeaa
open Go.RowKit
set_option linter.unusedVariables false
set_option maxRecDepth 100000

theorem first_block_full {w w' : World} {l : List Nat} (h : Below (w.heap.size + 1) (w.alloc (.cells (cells l) 40)) w') : Below w.heap.size w w' ∧ w'.heap[w.heap.size]? = some (.cells (cells l) 40 (0, 0)) :=
  ⟨((Below.refl _ _).alloc (Nat.le_refl _) _).trans (h.mono (by omega)), by rw [h.block _ (by omega)]; exact heap_alloc_new _ _⟩

theorem owns_four (B : Nat) (w : World) (x y : Nat) (hB : B ≤ w.heap.size) (hx : x < 256) (hy : y < 256) : Owns B (w.alloc (.cells #[.int .u8 215, .int .u8 76, .int .u8 x, .int .u8 y] 5)) (.slice (some ⟨w.heap.size, 0, none⟩) 4 4) [215, 76, x, y] := by
  refine ⟨by intro z hz; simp at hz; omega, by rfl, .inr ⟨w.heap.size, 4, _, rfl, hB, heap_alloc_new w _, Nat.le_refl _, by decide, rfl, rfl⟩⟩

set_option maxHeartbeats 1600000 in
set_option maxRecDepth 100000 in
theorem rmake_no (kind : Nat) (body : List Nat) (a : Option Addr) (len cap : Nat) (w : World) (hl : len ≤ maxLen) (hno : kind = 0 ∨ 120 < len) :
    Calls Try.prog 131 #[.int .u8 kind, .slice a len cap] w fun e w' => e = .returned (.tuple #[.agg (cells noughts), .bool false]) ∧ Below w.heap.size w w' := by
  have hm : len ≤ 9223372036854775807 := by unfold maxLen at hl; omega
  have hz := zero_full
  have hbld := build_full
  have HR := Lib.hid (heap_alloc_new w (.cells (cells noughts) 40))
  have HB : Hid (Below w.heap.size w (w.alloc (.cells (cells noughts) 40))) := (Below.refl _ _).alloc (Nat.le_refl _) _
  by_cases hk0 : kind = 0
  · have hk0' : ((kind : Int) == 0) = true := by simp [hk0]
    clear hk0 hno
    go_enter Try.func131, Try.ntmps131
    go_wp2_with (refine wpList_store_full rfl (.tmp 4) (.tmp 14) rfl w.heap.size noughts rfl rfl rfl _ _ HR.out rfl ?_)
    all_goals exact bodyPost_ret (results_full_tmp rfl _ _ w.heap.size noughts _ _ rfl (setRow_heap _ _ _ _ _ _ HR.out) rfl) rfl ⟨rfl, below_setRow HB.out (Nat.le_refl _) _⟩
  · have hk0' : ((kind : Int) == 0) = false := by simp; omega
    have hl' : 120 < len := by omega
    clear hk0 hno
    go_enter Try.func131, Try.ntmps131
    go_wp2_with (refine wpList_store_full rfl (.tmp 4) (.tmp 14) rfl w.heap.size noughts rfl rfl rfl _ _ HR.out rfl ?_)
    all_goals exact bodyPost_ret (results_full_tmp rfl _ _ w.heap.size noughts _ _ rfl (setRow_heap _ _ _ _ _ _ HR.out) rfl) rfl ⟨rfl, below_setRow HB.out (Nat.le_refl _) _⟩

theorem fullL_whole {l : List Nat} (h : l.length = 128) : fullL l = l := by
  unfold fullL pad
  rw [List.take_of_length_le (by omega), h]
  simp

/-- The length that a slice says. -/
def lenOfV : Value → Nat
  | .slice _ n _ => n
  | _ => 0

set_option maxHeartbeats 1600000 in
set_option maxRecDepth 100000 in
theorem rmake_ok (kind : Nat) (body : List Nat) (a : Option Addr) (len cap : Nat) (w : World) (hr : Reads w a len body) (hl : len ≤ 120) (hk : kind < 256) (hk0 : kind ≠ 0) :
    Calls Try.prog 131 #[.int .u8 kind, .slice a len cap] w fun e w' => e = .returned (.tuple #[.agg (cells (sealL kind body)), .bool true]) ∧ Below w.heap.size w w' := by
  obtain rfl : len = body.length := hr.1.symm
  have hz := zero_full
  have hk0' : ((kind : Int) == 0) = false := by simp; omega
  have hnl : (body.length : Int) % 256 = body.length := by omega
  have B0 := Below.refl (w.heap.size + 1) (w.alloc (.cells (cells noughts) 40))
  have hs0 : (w.alloc (.cells (cells noughts) 40)).heap.size = w.heap.size + 1 := by simp
  have hr0 := hr.alloc (.cells (cells noughts) 40)
  have ho4 := owns_four (w.heap.size + 1) (w.alloc (.cells (cells noughts) 40)) kind body.length (by omega) hk (by omega)
  rw [hs0] at ho4
  have hr4 := hr0.alloc (.cells #[.int .u8 215, .int .u8 76, .int .u8 kind, .int .u8 body.length] 5)
  have B1 := B0.alloc (by omega) (.cells #[.int .u8 215, .int .u8 76, .int .u8 kind, .int .u8 body.length] 5)
  have hs1 := B1.size
  have hP : ([215, 76, kind, body.length] ++ body : List Nat).length = 4 + body.length := by simp; omega
  have hH : headL kind body = [215, 76, kind, body.length] ++ body ++ List.replicate (120 - body.length) 0 := rfl
  have HH := Lib.hid hH
  clear hr hk0 hr0 hH
  go_enter Try.func131, Try.ntmps131
  go_wp2_with (at_builtin; refine wpList_append_bytes rfl _ _ rfl (w.heap.size + 1) _ _ rfl ho4 _ _ _ rfl body hr4 (by simp; omega) (by omega) ?_; intro v1 w1 h1 g1)
  have B2 := B1.grown g1 (by omega) (fun j hj => ho4.lt j hj)
  clear ho4 hr4 g1 B1 hs1
  generalize ([215, 76, kind, body.length] ++ body : List Nat) = P at *
  go_loopw [6] (fun v wr => ∃ m : Nat, P.length + m ≤ 124 ∧ Owns (w.heap.size + 1) wr v (P ++ List.replicate m 0) ∧ Below (w.heap.size + 1) (w.alloc (.cells (cells noughts) 40)) wr) (fun v _ => 124 - lenOfV v)
  case atStart => exact ⟨0, by omega, by simpa using h1, B2⟩
  case round =>
    obtain ⟨m, hm, ho, hb⟩ := hrel
    have hlen : (P ++ List.replicate m 0).length = P.length + m := by simp
    have HN : Hid (P ++ List.replicate m 0 ++ [0] = P ++ List.replicate (m + 1) 0) := by show _ = _; rw [List.replicate_succ', List.append_assoc]
    have HE : Hid (m = 120 - body.length → P ++ List.replicate m 0 = headL kind body) := fun h => by rw [HH.out, h]
    obtain ⟨L, hL⟩ : ∃ L, P ++ List.replicate m 0 = L := ⟨_, rfl⟩
    rw [hL] at ho hlen HN HE
    clear hL HH
    have hbs := hb.size
    by_cases hlt : L.length < 124
    · have ho' := ho.alloc (.cells #[byteV 0] 5)
      have hr1 := reads_one wr 0 (by decide)
      obtain ⟨ao, co, rfl, hrd, hlc, hcm⟩ := ho.reads
      clear hrd ho
      unfold maxLen at hcm
      go_wp2_with (at_builtin; refine wpList_append_bytes rfl _ _ rfl (w.heap.size + 1) (.slice ao L.length co) _ rfl ho' _ _ _ rfl _ hr1 (by omega) (by simp; omega) ?_; intro v' w' h1 h2)
      have hb' := (hb.alloc (by omega) _).grown h2 (by simp; omega) (fun j hj => ho'.lt j hj)
      clear h2 ho' hr1
      have hsz : (L ++ [0]).length = L.length + 1 := by simp
      obtain ⟨a', c', rfl, _⟩ := h1.reads
      go_roundw
      case rel => exact ⟨m + 1, by omega, by rw [← HN.out]; exact h1, hb'⟩
      case measure => simp [lenOfV]; omega
    · have HL : Hid (L = headL kind body) := HE.out (by omega)
      have h4 : L.length = 124 := by omega
      clear HN HE
      obtain ⟨ao, co, rfl, hrd, hlc, hcm⟩ := ho.reads
      rw [h4] at hrd ho ⊢
      have H4 := Lib.hid h4
      clear hlen hP h4 hlt hlc hcm hm
      go_wp2_with fail
      refine (rcrc_any ao _ co L wr hrd (by decide)).mono ?_
      rintro e w2 ⟨rfl, rfl⟩
      have hcl := crc_lt L
      obtain ⟨sum, hsum⟩ : ∃ sum, crc L = sum := ⟨_, rfl⟩
      rw [hsum] at hcl ⊢
      have HS := Lib.hid hsum
      clear hsum
      have hsm : (sum : Int) % 18446744073709551616 = sum := by omega
      go_wp2_with fail
      refine (low_any sum 4 _ (by decide) (by omega)).mono ?_
      rintro e w3 ⟨v3, rfl, ho3, hb3⟩
      obtain ⟨a3, c3, rfl, hrd3, _, _⟩ := ho3.reads
      clear ho3
      rw [low_length] at hrd3 ⊢
      have ho3' := ho.below (hb3.mono (Nat.le_refl _))
      have hb4 := hb.trans (hb3.mono (hs0 ▸ hbs))
      have hbs4 := hb4.size
      clear ho hb hbs hb3 hrd hsm hcl
      have hsl := sealL_length (kind := kind) (body := body) hl
      have hseal : L ++ low sum 4 = sealL kind body := by unfold sealL; rw [← HL.out, HS.out]
      obtain ⟨S, hSS⟩ : ∃ S, sealL kind body = S := ⟨_, rfl⟩
      rw [hSS] at hsl hseal
      have HSS := Lib.hid hSS
      clear hSS
      go_wp2_with (at_builtin; refine wpList_append_bytes rfl _ _ rfl (w.heap.size + 1) (.slice ao 124 co) L rfl ho3' _ _ _ rfl (low sum 4) hrd3 (by rw [H4.out]; decide) (by omega) ?_; intro v5 w5 h5 g5; rw [hseal] at h5; have hb5 := hb4.grown g5 (by omega) (fun j hj => ho3'.lt j hj); obtain ⟨a5, c5, rfl, hrd5, _, _⟩ := h5.reads; rw [hsl] at hrd5 ⊢; clear h5 g5 ho3' hrd3 hseal hb4 hbs4)
      have HSL := Lib.hid hsl
      clear hsl
      refine (full_any a5 128 c5 S w5 hrd5 (by decide)).mono ?_
      rintro e w6 ⟨rfl, b6⟩
      rw [fullL_whole HSL.out]
      have hs5 := hb5.size
      have b7 := hb5.trans (b6.mono (by omega))
      obtain ⟨bfin, hres⟩ := first_block_full b7
      have HR := Lib.hid hres
      clear hres b6 b7 hb5 hrd5
      go_wp2_with (refine wpList_store_full rfl (.tmp 4) (.tmp 34) rfl w.heap.size S rfl rfl HSL.out _ _ HR.out rfl ?_)
      exact bodyPost_ret (results_full_tmp rfl _ _ w.heap.size S _ _ rfl (setRow_heap _ _ _ _ _ _ HR.out) HSL.out) rfl ⟨by rw [HSS.out]; rfl, below_setRow bfin (Nat.le_refl _) _⟩
end Go.Proofs.Ytgakidimipipeaa

namespace Go.Proofs.Ytgakidimipipeaa
set_option linter.unusedVariables false
set_option maxRecDepth 100000

theorem xor_back (a b : Nat) : (a ^^^ b) ^^^ b = a := by rw [Nat.xor_assoc, Nat.xor_self, Nat.xor_zero]
theorem xor_right_inj {a b c : Nat} (h : a ^^^ c = b ^^^ c) : a = b := by rw [← xor_back a c, h, xor_back]
theorem xor_left_inj {a b c : Nat} (h : c ^^^ a = c ^^^ b) : a = b := xor_right_inj (c := c) (by rw [Nat.xor_comm a, Nat.xor_comm b]; exact h)
theorem poly_top {c : Nat} (h : c < 4294967296) : (c / 2 ^^^ 3988292384).testBit 31 = true := by
  rw [Nat.testBit_xor, Nat.testBit_lt_two_pow (x := c / 2) (by omega)]
  decide
theorem half_top {c : Nat} (h : c < 4294967296) : (c / 2).testBit 31 = false := Nat.testBit_lt_two_pow (by omega)
theorem crcBit_inj {c d : Nat} (hc : c < 4294967296) (hd : d < 4294967296) (h : crcBit c = crcBit d) : c = d := by
  unfold crcBit at h
  have tc := poly_top hc
  have td := poly_top hd
  have uc := half_top hc
  have ud := half_top hd
  split at h <;> split at h
  · have := xor_right_inj h
    omega
  · rw [h, ud] at tc; exact absurd tc (by decide)
  · rw [← h, uc] at td; exact absurd td (by decide)
  · omega
theorem crcBits_inj {c d : Nat} (hc : c < 4294967296) (hd : d < 4294967296) (k : Nat) (h : crcBits k c = crcBits k d) : c = d := by
  induction k with
  | zero => exact h
  | succ k ih => exact ih (crcBit_inj (crcBits_lt hc k) (crcBits_lt hd k) h)
theorem crcByte_inj {c d x : Nat} (hc : c < 4294967296) (hd : d < 4294967296) (hx : x < 256) (h : crcByte c x = crcByte d x) : c = d :=
  xor_right_inj (crcBits_inj (xor_lt32 hc (by omega)) (xor_lt32 hd (by omega)) 8 h)
theorem crcByte_inj' {c x y : Nat} (hc : c < 4294967296) (hx : x < 256) (hy : y < 256) (h : crcByte c x = crcByte c y) : x = y :=
  xor_left_inj (crcBits_inj (xor_lt32 hc (by omega)) (xor_lt32 hc (by omega)) 8 h)
theorem crcFold_inj (l : List Nat) (hb : Bytes l) : ∀ c d, c < 4294967296 → d < 4294967296 → l.foldl crcByte c = l.foldl crcByte d → c = d := by
  induction l with
  | nil => intro c d _ _ h; exact h
  | cons x l ih =>
    intro c d hc hd h
    have hx : x < 256 := hb x (by simp)
    exact crcByte_inj hc hd hx (ih (fun y hy => hb y (by simp [hy])) _ _ (crcByte_lt hc hx) (crcByte_lt hd hx) h)
theorem crc_mid {p q : List Nat} {x y : Nat} (hp : Bytes p) (hq : Bytes q) (hx : x < 256) (hy : y < 256) (h : crc (p ++ x :: q) = crc (p ++ y :: q)) : x = y := by
  have hc := crcRaw_lt p hp
  have e : ∀ z, crcRaw (p ++ z :: q) = q.foldl crcByte (crcByte (crcRaw p) z) := fun z => by simp [crcRaw]
  have hbz : ∀ z, z < 256 → Bytes (p ++ z :: q) := fun z hz => hp.append (by
    intro a ha
    rcases List.mem_cons.1 ha with rfl | ha
    · exact hz
    · exact hq a ha)
  have h1 := crcRaw_lt _ (hbz x hx)
  have h2 := crcRaw_lt _ (hbz y hy)
  have h3 : crcRaw (p ++ x :: q) = crcRaw (p ++ y :: q) := by unfold crc at h; omega
  rw [e, e] at h3
  exact crcByte_inj' hc hx hy (crcFold_inj q hq _ _ (crcByte_lt hc hx) (crcByte_lt hc hy) h3)

theorem set_split (l : List Nat) (i v : Nat) (h : i < l.length) : l.set i v = l.take i ++ v :: l.drop (i + 1) := by
  rw [List.set_eq_take_append_cons_drop, if_pos h]

theorem Bytes.set {l : List Nat} (h : Bytes l) (i v : Nat) (hv : v < 256) : Bytes (l.set i v) := by
  intro x hx
  rcases List.mem_or_eq_of_mem_set hx with h1 | rfl
  · exact h x h1
  · exact hv

theorem sealL_turn {k k' : Nat} {b b' : List Nat} (hk : k < 256) (hbb : Bytes b) (hb : b.length ≤ 120) (hb' : b'.length ≤ 120) {i v : Nat} (hi : i < 128) (hv : v < 256) (h : sealL k' b' = (sealL k b).set i v) : (sealL k b).getD i 0 = v := by
  have hl := headL_length (kind := k) hb
  have hl' := headL_length (kind := k') hb'
  have hB := headL_bytes hk hbb hb
  have hs := sealL_length (kind := k) hb
  by_cases hlt : i < 124
  · have e : (sealL k b).set i v = (headL k b).set i v ++ low (crc (headL k b)) 4 := by unfold sealL; rw [List.set_append_left _ _ (by omega)]
    rw [e] at h
    have h' : headL k' b' ++ low (crc (headL k' b')) 4 = (headL k b).set i v ++ low (crc (headL k b)) 4 := h
    obtain ⟨h1, h2⟩ := List.append_inj h' (by rw [List.length_set, hl, hl'])
    rw [h1] at h2
    have h3 : crc ((headL k b).set i v) = crc (headL k b) := by
      have a1 := le_low (crc ((headL k b).set i v)) 4 (crc_lt _)
      have a2 := le_low (crc (headL k b)) 4 (crc_lt _)
      rw [h2] at a1
      have := crc_lt ((headL k b).set i v)
      have := crc_lt (headL k b)
      omega
    have h4 : headL k b = (headL k b).take i ++ (headL k b)[i]'(by omega) :: (headL k b).drop (i + 1) := by simp
    rw [set_split _ _ _ (by omega)] at h3
    have h5 : crc ((headL k b).take i ++ v :: (headL k b).drop (i + 1)) = crc ((headL k b).take i ++ (headL k b)[i]'(by omega) :: (headL k b).drop (i + 1)) := by rw [← h4]; exact h3
    have h6 := crc_mid (fun x hx => hB x (List.mem_of_mem_take hx)) (fun x hx => hB x (List.mem_of_mem_drop hx)) hv (hB _ (List.getElem_mem _)) h5
    rw [h6]
    unfold sealL
    rw [List.getD_eq_getElem?_getD, List.getElem?_append_left (by omega), List.getElem?_eq_getElem (by omega)]
    rfl
  · have e : headL k' b' = headL k b := by
      have := congrArg (List.take 124) h
      rw [List.take_set_of_le (by omega)] at this
      unfold sealL at this
      rw [List.take_append_of_le_length (by omega), List.take_append_of_le_length (by omega), List.take_of_length_le (by omega), List.take_of_length_le (by omega)] at this
      exact this
    have h1 : sealL k' b' = sealL k b := by unfold sealL; rw [e]
    rw [h1] at h
    have h2 : (sealL k b)[i]'(by omega) = ((sealL k b).set i v)[i]'(by rw [List.length_set]; omega) := List.getElem_of_eq h _
    rw [List.getElem_set_self] at h2
    rw [List.getD_eq_getElem?_getD, List.getElem?_eq_getElem (by omega), h2]
    rfl

theorem openB_turn {k : Nat} {b : List Nat} (hk : k < 256) (hbb : Bytes b) (hb : b.length ≤ 120) {i v : Nat} (hi : i < 128) (hv : v < 256) (hne : (sealL k b).getD i 0 ≠ v) : openB ((sealL k b).set i v) = false := by
  unfold openB
  apply decide_eq_false
  rintro ⟨_, h2, h3⟩
  exact hne (sealL_turn hk hbb hb h2 hi hv h3)
theorem set_same {l : List Nat} {i v : Nat} (h : l.getD i 0 = v) (hi : i < l.length) : l.set i v = l := by
  rw [List.getD_eq_getElem?_getD, List.getElem?_eq_getElem hi] at h
  subst h
  exact List.set_getElem_self hi
end Go.Proofs.Ytgakidimipipeaa

namespace Go.Proofs.Ytgakidimipipeaa
open Go.RowKit Go.Sort
set_option linter.unusedVariables false
set_option linter.unusedSimpArgs false
set_option maxRecDepth 100000

theorem results_turn {fn : Func} {p : Tmp} (h : fn.results = #[.cell p 41]) (tmps : Array Value) (w : World) (g : Nat) (l : List Nat) (t : TypeId) (fr : Nat × Nat) (hp : tmps.getD p undef = .pointer (some ⟨g, 0, none⟩))
    (hg : w.heap[g]? = some (.cells (cells l) t fr)) (hl : l.length = 128) : (results fn tmps).run Try.prog w = .ok (.agg (cells l)) w :=
  results_cell_row h tmps w g t (cells l) fr _ hp hg row_sector rfl (by rw [size_sector, cells_size, hl])

end Go.Proofs.Ytgakidimipipeaa
