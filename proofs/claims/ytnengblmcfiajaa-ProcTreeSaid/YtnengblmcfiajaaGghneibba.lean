/- Orphans: the two tables side by side. -/
import Derived.Test.YtnengblmcfiajaaGofanding
import Derived.Test.YtnengblmcfiajaaOpenAct22
namespace Go.Proofs.Ytnengblmcfiajaa
open Go.RowKit Go.Sort
set_option linter.unusedVariables false
set_option linter.unusedSimpArgs false
set_option maxRecDepth 100000

/-- The program's table and the document's, which say the same. -/
structure Or22 (w W : World) (g gs cap : Nat) (T T2 : TabD) (a : Option Addr) (c : Nat) : Prop where
  tab : IsTable w.heap.size W g gs cap T
  ref : RTab w.heap.size W (rtabV a T2.list.length c T2) T2
  bel : Below w.heap.size w W
theorem Or22.below {w W W' : World} {g gs cap : Nat} {T T2 : TabD} {a : Option Addr} {c : Nat} (h : Or22 w W g gs cap T T2 a c) (k : Below W.heap.size W W') : Or22 w W' g gs cap T T2 a c := ⟨h.tab.below k, h.ref.below k, below_next h.bel k⟩
theorem boxR_ne {B : Nat} {W : World} {b g gs cap : Nat} {T : TabD} {v : Value} {m l n : Int} (h : IsTable B W g gs cap T) (hb : BoxR W b v m l n) : b ≠ g ∧ b ≠ gs := by
  obtain ⟨cs, hcs⟩ := own_cellsT h.2.1
  refine ⟨fun e => ?_, fun e => ?_⟩
  · have h1 := hb; subst e
    rw [BoxR, h.1] at h1
    simp at h1
  · have h1 := hb; subst e
    rw [BoxR, hcs] at h1
    simp at h1
theorem Or22.keptB {w W W' : World} {g gs cap b : Nat} {T T2 : TabD} {a : Option Addr} {c : Nat} {v : Value} {m l n : Int} (h : Or22 w W g gs cap T T2 a c) (hb : BoxR W b v m l n) (hg : W.grownBy W' (some b)) (hw : w.heap.size ≤ b) : Or22 w W' g gs cap T T2 a c := by
  obtain ⟨n1, n2⟩ := boxR_ne h.tab hb
  obtain ⟨a6, c6, e6, ho6, ok6⟩ := h.ref
  refine ⟨⟨(hg.block g (table_lt h.tab).1 (by intro e; exact n1 (Option.some.inj e).symm)).trans h.tab.1, h.tab.2.1.kept hg (.inr (by intro e; exact n2 (Option.some.inj e).symm)), h.tab.2.2⟩, ⟨a6, c6, e6, ho6.kept hg ?_, ok6⟩, h.bel.grown hg h.bel.size (fun j hj => by obtain rfl := Option.some.inj hj; exact hw)⟩
  rcases hj : (Value.slice a6 T2.list.length c6).ownBlock with _ | j
  · exact .inl rfl
  · right
    intro e
    obtain rfl : j = b := Option.some.inj e
    exact ho6.apartT hb (by decide) hj
theorem Or22.told {w W W' : World} {g gs cap gs' cap' : Nat} {T T2 T' T2' : TabD} {a a' : Option Addr} {c c' : Nat} (h : Or22 w W g gs cap T T2 a c) (ht : IsTable w.heap.size W' g gs' cap' T') (hr : RTab w.heap.size W' (rtabV a' T2'.list.length c' T2') T2') (k : TKeeps g gs W W') : Or22 w W' g gs' cap' T' T2' a' c' :=
  ⟨ht, hr, k.below h.bel h.bel.size h.tab.2.2.1 (table_lt h.tab).2.2⟩
theorem boxR_told {B : Nat} {W W' : World} {g gs cap b : Nat} {T : TabD} {v : Value} {m l n : Int} (h : IsTable B W g gs cap T) (hb : BoxR W b v m l n) (k : TKeeps g gs W W') : BoxR W' b v m l n := by
  obtain ⟨n1, n2⟩ := boxR_ne h hb
  exact (k.block b hb.cells.2.2 n1 n2).trans hb
/-- What an act leaves: both tables, the box of the next one. -/
structure Or22B (w W : World) (g gs cap g6 g8 : Nat) (T T2 T0 : TabD) (a a0 : Option Addr) (c c0 : Nat) : Prop where
  or : Or22 w W g gs cap T T2 a c
  old : BoxR W g6 (.slice a0 T0.list.length c0) T0.most T0.last T0.now
  new : BoxR W g8 (.slice a T2.list.length c) T2.most T2.last T2.now
  ne : w.heap.size ≤ g6 ∧ g6 < g8
theorem or22_made {w W Wi : World} {g gs cap gs' cap' g6 : Nat} {T T' T2' T0 : TabD} {a a' : Option Addr} {c c' : Nat} (h : Or22 w W g gs cap T T0 a c) (hb : BoxR W g6 (.slice a T0.list.length c) T0.most T0.last T0.now) (hw : w.heap.size ≤ g6)
    (ht : IsTable w.heap.size Wi g gs' cap' T') (hr : RTab w.heap.size Wi (rtabV a' T2'.list.length c' T2') T2') (k : TKeeps g gs W Wi) :
    Or22B w (Wi.alloc (.cells #[.slice a' T2'.list.length c', .int .i64 T2'.most, .int .i64 T2'.last, .int .i64 T2'.now] 28)) g gs' cap' g6 Wi.heap.size T' T2' T0 a' a c' c := by
  have hb2 := boxR_told h.tab hb k
  have kx := below_box Wi (.cells #[.slice a' T2'.list.length c', .int .i64 T2'.most, .int .i64 T2'.last, .int .i64 T2'.now] 28)
  exact ⟨(h.told ht hr k).below kx, hb2.below kx, heap_alloc_new Wi _, hw, hb2.cells.2.2⟩
theorem or22_kept {w W Wi : World} {g gs cap gs' cap' g6 g8 : Nat} {T T' T2' T0 : TabD} {a a' : Option Addr} {c c' : Nat} (h : Or22 w W g gs cap T T0 a c) (hb : BoxR W g6 (.slice a T0.list.length c) T0.most T0.last T0.now) (hw : w.heap.size ≤ g6) (h8 : BoxR W g8 (.slice none 0 0) 0 0 0) (hlt : g6 < g8)
    (ht : IsTable w.heap.size Wi g gs' cap' T') (hr : RTab w.heap.size Wi (rtabV a' T2'.list.length c' T2') T2') (k : TKeeps g gs W Wi) :
    (Wi.cell? ⟨g8, 0, none⟩ = some (.slice none 0 0) ∧ Wi.cell? ⟨g8, 1, none⟩ = some (.int .i64 0) ∧ Wi.cell? ⟨g8, 2, none⟩ = some (.int .i64 0) ∧ Wi.cell? ⟨g8, 3, none⟩ = some (.int .i64 0)) ∧ (∀ j, Wi.frozen? ⟨g8, j, none⟩ = false) ∧
    ∃ W', (((Wi.setCell ⟨g8, 0, none⟩ (.slice a' T2'.list.length c')).setCell ⟨g8, 1, none⟩ (.int .i64 T2'.most)).setCell ⟨g8, 2, none⟩ (.int .i64 T2'.last)).setCell ⟨g8, 3, none⟩ (.int .i64 T2'.now) = W' ∧ Hid (Or22B w W' g gs' cap' g6 g8 T' T2' T0 a' a c' c) := by
  have hb2 := boxR_told h.tab hb k
  have h82 := boxR_told h.tab h8 k
  have hs := h82.set4 (.slice a' T2'.list.length c') T2'.most T2'.last T2'.now
  exact ⟨h82.cells.1, h82.cells.2.1, _, rfl, Lib.hid ⟨(h.told ht hr k).keptB h82 hs.2 (by omega), hb2.kept hs.2 (by intro e; have e9 : g6 = g8 := Option.some.inj e; omega), hs.1, hw, hlt⟩⟩
/-- The next table is the table. -/
theorem Or22B.turn {w W : World} {g gs cap g6 g8 : Nat} {T T2 T0 : TabD} {a a0 : Option Addr} {c c0 : Nat} (h : Or22B w W g gs cap g6 g8 T T2 T0 a a0 c c0) :
    ∃ W', (((W.setCell ⟨g6, 0, none⟩ (.slice a T2.list.length c)).setCell ⟨g6, 1, none⟩ (.int .i64 T2.most)).setCell ⟨g6, 2, none⟩ (.int .i64 T2.last)).setCell ⟨g6, 3, none⟩ (.int .i64 T2.now) = W' ∧ Hid (Or22 w W' g gs cap T T2 a c ∧ BoxR W' g6 (.slice a T2.list.length c) T2.most T2.last T2.now) := by
  have hs := h.old.set4 (.slice a T2.list.length c) T2.most T2.last T2.now
  exact ⟨_, rfl, Lib.hid ⟨h.or.keptB h.old hs.2 h.ne.1, hs.1⟩⟩
end Go.Proofs.Ytnengblmcfiajaa
