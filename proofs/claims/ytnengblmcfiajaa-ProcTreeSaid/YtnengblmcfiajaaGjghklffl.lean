/- The law's acts on processes: plain facts, and the boxes. -/
import Derived.Test.YtnengblmcfiajaaGeobmdadj
import Derived.Test.YtnengblmcfiajaaGbpbgpplk
import Derived.Test.YtnengblmcfiajaaGpiegjmln
import Derived.Test.YtnengblmcfiajaaGdcllcbhi
namespace Go.Proofs.Ytnengblmcfiajaa
open Go.RowKit Go.Sort
set_option linter.unusedVariables false
set_option linter.unusedSimpArgs false
set_option maxRecDepth 100000

/-- What an act makes of a table. -/
def doF (T : TabD) (kd x y : Int) : TabD := if kd = 0 then (forkF T x).1 else if kd = 1 then (exitF T x y).1 else if kd = 2 then (waitF T x).1 else if kd = 3 then (killF T x).1 else if kd = 4 then (sleepF T x y).1 else tickT T y
theorem tr_do {T : TabD} (h : TrInv T) (kd x y : Int) : TrInv (doF T kd x y) := by
  unfold doF
  split
  · exact tr_fork h x
  · split
    · exact tr_exit h x y
    · split
      · exact tr_wait h x
      · split
        · exact tr_kill h x
        · split
          · exact tr_sleep h x y
          · exact tr_tick h y
theorem do_most (T : TabD) (kd x y : Int) : (doF T kd x y).most = T.most ∧ (doF T kd x y).last ≤ T.last + 1 ∧ T.last ≤ (doF T kd x y).last := by
  unfold doF forkF exitF waitF killF sleepF tickT
  repeat' split
  all_goals (refine ⟨rfl, ?_, ?_⟩ <;> dsimp only <;> omega)
theorem OwnsR'.keptTK {B : Nat} {w w' : World} {e : TypeId} {k g gs : Nat} {v : Value} {l : List (List Value)} (h : OwnsR' B w e k v l) (tk : TKeeps g gs w w') (h1 : v.ownBlock ≠ some g) (h2 : v.ownBlock ≠ some gs) : OwnsR' B w' e k v l := by
  obtain ⟨h0, hl, ⟨hv, hn⟩ | ⟨g', cap, cur, hv, hB, hg, hc, hm, hs, ht⟩⟩ := h
  · exact ⟨h0, hl, .inl ⟨hv, hn⟩⟩
  · subst hv
    refine ⟨h0, hl, .inr ⟨g', cap, cur, rfl, hB, (tk.block g' (Array.getElem?_eq_some_iff.1 hg).1 (fun e => h1 (by rw [e]; rfl)) (fun e => h2 (by rw [e]; rfl))).trans hg, hc, hm, hs, ht⟩⟩
theorem own_cellsT {B : Nat} {w : World} {e : TypeId} {k g n c : Nat} {l : List (List Value)} (h : OwnsR' B w e k (.slice (some ⟨g, 0, none⟩) n c) l) : ∃ cs, w.heap[g]? = some (.cells cs e (0, 0)) := by
  obtain ⟨_, _, ⟨hv, _⟩ | ⟨g', cap, cur, hv, _, hg, _⟩⟩ := h
  · cases hv
  · cases hv; exact ⟨_, hg⟩
theorem RTab.keptTK {B B' : Nat} {w w' : World} {v : Value} {T T1 : TabD} {g gs cap : Nat} (h : RTab B w v T) (ht : IsTable B' w g gs cap T1) (tk : TKeeps g gs w w') : RTab B w' v T := by
  obtain ⟨a, c, e, h1, h2⟩ := h
  obtain ⟨cs, hcs⟩ := own_cellsT ht.2.1
  exact ⟨a, c, e, h1.keptTK tk (h1.apartT ht.1 (by decide)) (h1.apartT hcs (by decide)), h2⟩
/-- The boxes of the act: the table by value, the act, the result. -/
structure DoBx (w W : World) (g0 g1 g2 : Nat) (v : Value) (m la no kd x y : Int) : Prop where
  t : BoxR W g0 v m la no
  q : W.heap[g1]? = some (.cells #[.int .i64 kd, .int .i64 x, .int .i64 y] 31 (0, 0))
  r : BoxR W g2 (.slice none 0 0) 0 0 0
  g : w.heap.size ≤ g0 ∧ g0 < g1 ∧ g1 < g2
theorem DoBx.below {w W W' : World} {g0 g1 g2 : Nat} {v : Value} {m la no kd x y : Int} (h : DoBx w W g0 g1 g2 v m la no kd x y) (k : Below W.heap.size W W') : DoBx w W' g0 g1 g2 v m la no kd x y :=
  ⟨h.t.below k, (k.block g1 (Array.getElem?_eq_some_iff.1 h.q).1).trans h.q, h.r.below k, h.g⟩
theorem DoBx.told {w W W' : World} {g0 g1 g2 g gs : Nat} {v : Value} {m la no kd x y : Int} (h : DoBx w W g0 g1 g2 v m la no kd x y) (k : TKeeps g gs W W') (hg : g < w.heap.size) (hgs : gs < w.heap.size) : DoBx w W' g0 g1 g2 v m la no kd x y := by
  obtain ⟨q0, q1, q2⟩ := h.g
  exact ⟨(k.block g0 h.t.cells.2.2 (by omega) (by omega)).trans h.t, (k.block g1 (Array.getElem?_eq_some_iff.1 h.q).1 (by omega) (by omega)).trans h.q, (k.block g2 h.r.cells.2.2 (by omega) (by omega)).trans h.r, h.g⟩
theorem doBx_new (w : World) (v : Value) (m la no kd x y : Int) : ∃ w1 w2 w3 g0 g1 g2, w.alloc (.cells #[v, .int .i64 m, .int .i64 la, .int .i64 no] 28) = w1 ∧ w1.alloc (.cells #[.int .i64 kd, .int .i64 x, .int .i64 y] 31) = w2 ∧
    w2.alloc (.cells #[.slice none 0 0, .int .i64 0, .int .i64 0, .int .i64 0] 28) = w3 ∧ w.heap.size = g0 ∧ w1.heap.size = g1 ∧ w2.heap.size = g2 ∧ Hid (DoBx w w3 g0 g1 g2 v m la no kd x y ∧ Below w.heap.size w w3) := by
  refine ⟨_, _, _, _, _, _, rfl, rfl, rfl, rfl, rfl, rfl, Lib.hid ?_⟩
  generalize h1 : w.alloc (.cells #[v, .int .i64 m, .int .i64 la, .int .i64 no] 28) = w1
  generalize h2 : w1.alloc (.cells #[.int .i64 kd, .int .i64 x, .int .i64 y] 31) = w2
  have s1 : w1.heap.size = w.heap.size + 1 := by rw [← h1]; simp
  have s2 : w2.heap.size = w1.heap.size + 1 := by rw [← h2]; simp
  have b1 : Below w.heap.size w w1 := by rw [← h1]; exact below_box _ _
  have b2 : Below w1.heap.size w1 w2 := by rw [← h2]; exact below_box _ _
  have b3 := below_box w2 (.cells #[.slice none 0 0, .int .i64 0, .int .i64 0, .int .i64 0] 28)
  have n1 : BoxR w1 w.heap.size v m la no := by rw [← h1]; exact heap_alloc_new w _
  have n2 : w2.heap[w1.heap.size]? = some (.cells #[.int .i64 kd, .int .i64 x, .int .i64 y] 31 (0, 0)) := by rw [← h2]; exact heap_alloc_new w1 _
  exact ⟨⟨(n1.below b2).below b3, (b3.block _ (Array.getElem?_eq_some_iff.1 n2).1).trans n2, heap_alloc_new w2 _, Nat.le_refl _, by omega, by omega⟩, below_next (below_next b1 b2) b3⟩
theorem DoBx.fin {w W : World} {g0 g1 g2 : Nat} {v : Value} {m la no kd x y : Int} (h : DoBx w W g0 g1 g2 v m la no kd x y) (v' : Value) (m' l' n' : Int) :
    (W.cell? ⟨g2, 0, none⟩ = some (.slice none 0 0) ∧ W.cell? ⟨g2, 1, none⟩ = some (.int .i64 0) ∧ W.cell? ⟨g2, 2, none⟩ = some (.int .i64 0) ∧ W.cell? ⟨g2, 3, none⟩ = some (.int .i64 0)) ∧ (∀ j, W.frozen? ⟨g2, j, none⟩ = false) ∧
    ∃ W', (((W.setCell ⟨g2, 0, none⟩ v').setCell ⟨g2, 1, none⟩ (.int .i64 m')).setCell ⟨g2, 2, none⟩ (.int .i64 l')).setCell ⟨g2, 3, none⟩ (.int .i64 n') = W' ∧ Hid (BoxR W' g2 v' m' l' n' ∧ W.grownBy W' (some g2)) := by
  have hs := h.r.set4 v' m' l' n'
  exact ⟨h.r.cells.1, h.r.cells.2.1, _, rfl, Lib.hid ⟨hs.1, hs.2⟩⟩
/-- What an act on both comes to. -/
def Do22Post (B : Nat) (w : World) (g gs : Nat) (T1 T2 T1' T2' : TabD) (e : Ending) (w' : World) : Prop := ∃ gs' cap' v b, e = .returned (.tuple #[v, .bool b]) ∧ IsTable B w' g gs' cap' T1' ∧ RTab B w' v T2' ∧ (T1 = T2 → b = true) ∧ TKeeps g gs w w'
theorem do22_fin {B : Nat} {w W4 W5 W' : World} {g gs gs4 cap4 g2 : Nat} {T1 T2 T1' T2' : TabD} {a5 : Option Addr} {c5 : Nat} {b : Bool} (h4 : IsTable B W4 g gs4 cap4 T1') (k4 : TKeeps g gs w W4) (b5 : Below W4.heap.size W4 W5) (hr : RTab B W5 (rtabV a5 T2'.list.length c5 T2') T2')
    (hk : W5.grownBy W' (some g2)) (hn : BoxR W5 g2 (.slice none 0 0) 0 0 0) (hg2 : w.heap.size ≤ g2) (hb : T1 = T2 → b = true) : Do22Post B w g gs T1 T2 T1' T2' (.returned (.tuple #[rtabV a5 T2'.list.length c5 T2', .bool b])) W' := by
  have h5 := h4.below b5
  obtain ⟨cs, hcs⟩ := own_cellsT h5.2.1
  have n1 : g2 ≠ g := fun e => by
    have h1 := hn; subst e
    rw [BoxR, h5.1] at h1
    simp at h1
  have n2 : g2 ≠ gs4 := fun e => by
    have h1 := hn; subst e
    rw [BoxR, hcs] at h1
    simp at h1
  obtain ⟨a6, c6, e6, ho6, ok6⟩ := hr
  refine ⟨gs4, cap4, _, b, rfl, ⟨(hk.block g (table_lt h5).1 (by intro e; exact n1 (Option.some.inj e).symm)).trans h5.1, h5.2.1.kept hk (.inr (by intro e; exact n2 (Option.some.inj e).symm)), h5.2.2⟩, ⟨a6, c6, e6, ho6.kept hk ?_, ok6⟩, hb, ?_⟩
  · rcases hj : (Value.slice a6 T2'.list.length c6).ownBlock with _ | j
    · exact .inl rfl
    · right
      intro e
      obtain rfl : j = g2 := Option.some.inj e
      exact ho6.apartT hn (by decide) hj
  · have k5 := k4.trans (TKeeps.of_below b5)
    exact ⟨hk.os.trans k5.os, hk.tape.trans k5.tape, hk.output.trans k5.output, Nat.le_trans k5.size hk.size, fun i hi h1 h2 => (hk.block i (Nat.lt_of_lt_of_le hi k5.size) (by intro e; have e9 : i = g2 := Option.some.inj e; omega)).trans (k5.block i hi h1 h2)⟩
end Go.Proofs.Ytnengblmcfiajaa
