/- part.Flag: a truth as a number of one byte, laid through a port. -/
import Derived.Test.YtplkglepbedhoaaGhbcidcfc
namespace Go.Proofs.Ytplkglepbedhoaa
open Go.RowKit Go.Sort
set_option linter.unusedVariables false
set_option linter.unusedSimpArgs false
set_option maxRecDepth 100000

theorem passed_more {gx g : Nat} {w w1 w2 : World} {pv : Value} {S S1 S2 : PS} (h : Passed gx w pv S w1 S1) (k : Passed g w1 pv S1 w2 S2) (hg : w.heap.size ≤ g) : Passed gx w pv S w2 S2 :=
  ⟨k.os.trans h.os, k.tape.trans h.tape, k.output.trans h.output, Nat.le_trans h.size k.size,
    fun i hi ha hx => (k.block i (Nat.lt_of_lt_of_le hi h.size) (h.apart i hi ha) (by omega)).trans (h.block i hi ha hx), fun i hi ha => k.apart i (Nat.lt_of_lt_of_le hi h.size) (h.apart i hi ha), fun i hi ha => k.away i (Nat.lt_of_lt_of_le hi h.size) (h.away i hi ha), k.port⟩
theorem passed_grown {gx : Nat} {w w1 w2 : World} {pv : Value} {S S1 : PS} {row : Option Nat} (h : Passed gx w pv S w1 S1) (hg : w1.grownBy w2 row) (ha : ∀ k, row = some k → Away w1 pv S1 k) (hr : ∀ k, row = some k → k = gx ∨ w.heap.size ≤ k) : Passed gx w pv S w2 S1 := by
  obtain ⟨p1, p2, p3⟩ := port_kept h.port hg ha
  exact ⟨hg.os.trans h.os, hg.tape.trans h.tape, hg.output.trans h.output, Nat.le_trans h.size hg.size,
    fun i hi hap hx => (hg.block i (Nat.lt_of_lt_of_le hi h.size) (fun e => by rcases hr i e.symm with h | h <;> omega)).trans (h.block i hi hap hx),
    fun i hi hap => (p3 i).1 (h.apart i hi hap), fun i hi hap => (p2 i).1 (h.away i hi hap), p1⟩
theorem passed_none {gx : Nat} {w : World} {pv : Value} {S : PS} (h : IsPort w pv S) : Passed gx w pv S w S :=
  ⟨rfl, rfl, rfl, Nat.le_refl _, fun _ _ _ _ => rfl, fun _ _ h => h, fun _ _ h => h, h⟩
theorem grown_cell (w : World) (g i : Nat) (v : Value) : w.grownBy (w.setCell ⟨g, i, none⟩ v) (some g) := ⟨rfl, rfl, rfl, by simp [World.setCell], fun k hk hne => Below.heap_setCell _ _ _ _ (fun e => hne (by rw [e]))⟩

def flagN (b : Bool) : Int := if b then 1 else 0
/-- The truth that comes out. -/
def flagO (S : PS) (b : Bool) : Bool := (S.numI 1 (flagN b) != 0)
def FlagPost (gx i : Nat) (cs : Array Value) (t : TypeId) (w : World) (pv : Value) (S : PS) (b : Bool) (e : Ending) (w' : World) : Prop :=
  e = .returned (.tuple #[]) ∧ w'.heap[gx]? = some (.cells (cs.setIfInBounds i (.bool (flagO S b))) t (0, 0)) ∧ Passed gx w pv S w' (S.next 1 (u64of (flagN b)))
theorem flag_fin {gx i : Nat} {cs : Array Value} {t : TypeId} {w wn w5 : World} {pv : Value} {S : PS} {b : Bool} (hport : IsPort w pv S) (hx : w.heap[gx]? = some (.cells cs t (0, 0))) (hax : Away w pv S gx) (hq : Below w.heap.size w wn)
    (h : Passed w.heap.size wn pv S w5 (S.next 1 (u64of (flagN b)))) : w5.heap[gx]? = some (.cells cs t (0, 0)) ∧ FlagPost gx i cs t w pv S b (.returned (.tuple #[])) (w5.setCell ⟨gx, i, none⟩ (.bool (flagO S b))) := by
  have hgl : gx < w.heap.size := (Array.getElem?_eq_some_iff.1 hx).1
  obtain ⟨p1, p2, p3⟩ := port_kept hport (below_grown0 hq) (fun k hk => by cases hk)
  have hsz := hq.size
  have row : w5.heap[gx]? = some (.cells cs t (0, 0)) := (h.block gx (by omega) ((p2 gx).1 hax).apart (by omega)).trans ((hq.block gx hgl).trans hx)
  have ha5 : Away w5 pv (S.next 1 (u64of (flagN b))) gx := h.away gx (by omega) ((p2 gx).1 hax)
  refine ⟨row, rfl, heap_setCell_same w5 gx i _ _ _ row, ?_⟩
  have h1 : Passed gx w pv S wn S := passed_grown (passed_none hport) (below_grown0 hq) (fun k hk => by cases hk) (fun k hk => by cases hk)
  exact passed_grown (passed_more h1 h (Nat.le_refl _)) (grown_cell _ _ _ _) (fun k hk => by cases hk; exact ha5) (fun k hk => by cases hk; exact .inl rfl)

theorem below_cell {w w1 : World} (h : Below w.heap.size w w1) (i : Nat) (v : Value) : Below w.heap.size w (w1.setCell ⟨w.heap.size, i, none⟩ v) :=
  ⟨h.os, h.tape, h.output, by simpa using h.size, fun k hk => (Below.heap_setCell _ _ _ _ (by show k ≠ w.heap.size; omega)).trans (h.block k hk)⟩

set_option maxHeartbeats 1600000 in
theorem flag_is {gx i : Nat} {w : World} {pv : Value} {S : PS} {b : Bool} {cs : Array Value} {t : TypeId} (hport : IsPort w pv S) (hx : w.heap[gx]? = some (.cells cs t (0, 0))) (hax : Away w pv S gx) (hf : S.fits 1) (hc : cs[i]? = some (.bool b)) :
    Calls Try.prog 161 #[pv, .pointer (some ⟨gx, i, none⟩)] w (FlagPost gx i cs t w pv S b) := by
  have hgl : gx < w.heap.size := (Array.getElem?_eq_some_iff.1 hx).1
  have q1 := below_box w (.cells #[.int .i64 0] 3)
  have m1 := heap_alloc_new w (.cells #[.int .i64 0] 3)
  obtain ⟨w1, hw1⟩ : ∃ x, w.alloc (.cells #[.int .i64 0] 3) = x := ⟨_, rfl⟩
  rw [hw1] at q1 m1
  have q2 := below_cell q1 0 (.int .i64 0)
  have m2 : (w1.setCell ⟨w.heap.size, 0, none⟩ (.int .i64 0)).heap[w.heap.size]? = some (.cells #[.int .i64 0] 3 (0, 0)) := heap_setCell_same w1 w.heap.size 0 _ _ _ m1
  obtain ⟨w2, hw2⟩ : ∃ x, w1.setCell ⟨w.heap.size, 0, none⟩ (.int .i64 0) = x := ⟨_, rfl⟩
  rw [hw2] at q2 m2
  obtain ⟨ti, vi, rfl⟩ := port_iface hport
  have c0 : w1.cell? ⟨w.heap.size, 0, none⟩ = some (.int .i64 0) := cell_of_row m1 0
  have f0 := frozen_of_row w1 w.heap.size 0 _ _ m1
  have c2 : w2.cell? ⟨gx, i, none⟩ = some (.bool b) := (cell_of_row ((q2.block gx hgl).trans hx) i).trans hc
  cases b with
  | false =>
    obtain ⟨p1, p2, p3⟩ := port_kept hport (below_grown0 q2) (fun k hk => by cases hk)
    have HN := Lib.hid (pnum_i64 (off := 0) (z := 0) p1 m2 ((p2 _).1 (port_fresh hport (Nat.le_refl _))) 1 (by decide) (by decide) hf rfl (by unfold I64; omega))
    have HF := Lib.hid (fun (w5 : World) (h : Passed w.heap.size w2 (.iface ti vi) S w5 (S.next 1 (u64of 0))) => flag_fin (i := i) (b := false) hport hx hax q2 h)
    have HC := Lib.hid hc
    clear p1 p2 p3 hx hax hport q1 q2 m1 m2 hc hf hgl
    go_enter Try.func161, Try.ntmps161
    go_wp2_with fail
    refine HN.out.mono ?_
    rintro e w5 ⟨rfl, r5, h5⟩
    obtain ⟨row, fin⟩ := HF.out w5 h5
    have c5 : w5.cell? ⟨w.heap.size, 0, none⟩ = some (.int .i64 (S.numI 1 0)) := (cell_of_row r5 0).trans rfl
    have c6 : w5.cell? ⟨gx, i, none⟩ = some (.bool false) := (cell_of_row row i).trans HC.out
    have f5 := frozen_of_row w5 gx i _ _ row
    have F5 := Lib.hid fin
    clear r5 h5 row fin c0 f0 c2
    go_wp2_with fail
    go_end0
    exact F5.out
  | true =>
    have q3 := below_cell q2 0 (.int .i64 1)
    have m3 : (w2.setCell ⟨w.heap.size, 0, none⟩ (.int .i64 1)).heap[w.heap.size]? = some (.cells #[.int .i64 1] 3 (0, 0)) := heap_setCell_same w2 w.heap.size 0 _ _ _ m2
    obtain ⟨w3, hw3⟩ : ∃ x, w2.setCell ⟨w.heap.size, 0, none⟩ (.int .i64 1) = x := ⟨_, rfl⟩
    rw [hw3] at q3 m3
    have d2 : w2.cell? ⟨w.heap.size, 0, none⟩ = some (.int .i64 0) := cell_of_row m2 0
    have g2 := frozen_of_row w2 w.heap.size 0 _ _ m2
    obtain ⟨p1, p2, p3⟩ := port_kept hport (below_grown0 q3) (fun k hk => by cases hk)
    have HN := Lib.hid (pnum_i64 (off := 0) (z := 1) p1 m3 ((p2 _).1 (port_fresh hport (Nat.le_refl _))) 1 (by decide) (by decide) hf rfl (by unfold I64; omega))
    have HF := Lib.hid (fun (w5 : World) (h : Passed w.heap.size w3 (.iface ti vi) S w5 (S.next 1 (u64of 1))) => flag_fin (i := i) (b := true) hport hx hax q3 h)
    have HC := Lib.hid hc
    clear p1 p2 p3 hx hax hport q1 q2 m1 m2 hc hf hgl q3 m3
    go_enter Try.func161, Try.ntmps161
    go_wp2_with fail
    refine HN.out.mono ?_
    rintro e w5 ⟨rfl, r5, h5⟩
    obtain ⟨row, fin⟩ := HF.out w5 h5
    have c5 : w5.cell? ⟨w.heap.size, 0, none⟩ = some (.int .i64 (S.numI 1 1)) := (cell_of_row r5 0).trans rfl
    have c6 : w5.cell? ⟨gx, i, none⟩ = some (.bool true) := (cell_of_row row i).trans HC.out
    have f5 := frozen_of_row w5 gx i _ _ row
    have F5 := Lib.hid fin
    clear r5 h5 row fin c0 f0 c2 d2 g2
    go_wp2_with fail
    go_end0
    exact F5.out
end Go.Proofs.Ytplkglepbedhoaa
