/- The document's table of processes: put. -/
import Derived.Test.YtnengblmcfiajaaGkkdidgnn
import Derived.RegionTactic
import Derived.Deep.DeepCutAuto
import Derived.Deep.CutBlock
namespace Go.Proofs.Ytnengblmcfiajaa
open Go.RowKit Go.Sort
set_option linter.unusedVariables false
set_option linter.unusedSimpArgs false
set_option maxRecDepth 100000

theorem info_rproc : (Try.prog.info? 78).map (fun i => (i.zero, i.size, i.bytes)) = some (some (.agg #[.int .i64 0, .int .i64 0, .int .i64 0, .int .i64 0, .int .i64 0, .bool false]), 6, 48) := by kernel_rfl
/-- Six cells of a row. -/
def put6 (w : World) (gs i : Nat) (u : ProcD) : World := (((((w.setCell ⟨gs, i * 6, none⟩ (.int .i64 u.pid)).setCell ⟨gs, i * 6 + 1, none⟩ (.int .i64 u.parent)).setCell ⟨gs, i * 6 + 2, none⟩ (.int .i64 u.state)).setCell ⟨gs, i * 6 + 3, none⟩ (.int .i64 u.code)).setCell ⟨gs, i * 6 + 4, none⟩ (.int .i64 u.til)).setCell ⟨gs, i * 6 + 5, none⟩ (.bool u.killed)
theorem rows_put6e {B : Nat} {w : World} {e : TypeId} {gs n cap i : Nat} {m : List ProcD} (h : OwnsR' B w e 6 (.slice (some ⟨gs, 0, none⟩) n cap) (procsV m)) (hn : m.length = n) (hi : i < n) (u : ProcD) :
    OwnsR' B (put6 w gs i u) e 6 (.slice (some ⟨gs, 0, none⟩) n cap) (procsV (m.set i u)) ∧ w.grownBy (put6 w gs i u) (some gs) := by
  obtain ⟨r, hr⟩ : ∃ r, m[i]? = some r := ⟨_, List.getElem?_eq_getElem (by omega)⟩
  have hk := rows_cellsT (i := i) (procV u) 0 w (procsV m) (procV r) h (by rw [procsV_length]; exact hn) (procsV_get hr) (by show 0 + 6 ≤ 6; decide)
  have e : (procsV m).set i ((procV r).take 0 ++ procV u ++ (procV r).drop (0 + (procV u).length)) = procsV (m.set i u) := by
    unfold procsV
    rw [List.map_set]
    rfl
  rw [e, Nat.add_zero] at hk
  exact hk
def BoxQ (w : World) (g : Nat) (u : ProcD) : Prop := w.heap[g]? = some (.cells (procV u).toArray 78 (0, 0))
theorem BoxQ.cells {w : World} {g : Nat} {u : ProcD} (h : BoxQ w g u) : (w.cell? ⟨g, 0, none⟩ = some (.int .i64 u.pid) ∧ w.cell? ⟨g, 1, none⟩ = some (.int .i64 u.parent) ∧ w.cell? ⟨g, 2, none⟩ = some (.int .i64 u.state) ∧ w.cell? ⟨g, 3, none⟩ = some (.int .i64 u.code) ∧ w.cell? ⟨g, 4, none⟩ = some (.int .i64 u.til) ∧ w.cell? ⟨g, 5, none⟩ = some (.bool u.killed)) ∧ (∀ j, w.frozen? ⟨g, j, none⟩ = false) ∧ g < w.heap.size :=
  ⟨⟨cell_atT h 0, cell_atT h 1, cell_atT h 2, cell_atT h 3, cell_atT h 4, cell_atT h 5⟩, frozen_atT h, (Array.getElem?_eq_some_iff.1 h).1⟩
theorem BoxQ.kept {w w' : World} {g : Nat} {u : ProcD} (h : BoxQ w g u) {row : Option Nat} (k : w.grownBy w' row) (hne : some g ≠ row) : BoxQ w' g u := (k.block g h.cells.2.2 hne).trans h
theorem BoxQ.below {w w' : World} {g : Nat} {u : ProcD} (h : BoxQ w g u) (b : Below w.heap.size w w') : BoxQ w' g u := (b.block g h.cells.2.2).trans h
/-- The three boxes, and the list that is made. -/
structure PutSt (w W : World) (g0 g1 g2 gd n c : Nat) (m la no : Int) (p : ProcD) (l : List ProcD) : Prop where
  own : OwnsR' w.heap.size W 78 6 (.slice (some ⟨gd, 0, none⟩) n c) (procsV l)
  t : BoxR W g0 (.slice (some ⟨gd, 0, none⟩) n c) m la no
  p : BoxQ W g1 p
  r : BoxR W g2 (.slice none 0 0) 0 0 0
  b : Below w.heap.size w W
  g : w.heap.size ≤ g0 ∧ w.heap.size ≤ g1 ∧ w.heap.size ≤ g2 ∧ g0 ≠ g1 ∧ g0 ≠ g2 ∧ g1 ≠ g2 ∧ w.heap.size ≤ gd ∧ gd ≠ g1
theorem PutSt.below {w W W' : World} {g0 g1 g2 gd n c : Nat} {m la no : Int} {p : ProcD} {l : List ProcD} (h : PutSt w W g0 g1 g2 gd n c m la no p l) (b : Below W.heap.size W W') : PutSt w W' g0 g1 g2 gd n c m la no p l :=
  ⟨h.own.below b, h.t.below b, h.p.below b, h.r.below b, below_next h.b b, h.g⟩
theorem PutSt.put {w W : World} {g0 g1 g2 gd n c : Nat} {m la no : Int} {p : ProcD} {l : List ProcD} (h : PutSt w W g0 g1 g2 gd n c m la no p l) (hn : l.length = n) {i : Nat} (hi : i < n) (u : ProcD) : PutSt w (put6 W gd i u) g0 g1 g2 gd n c m la no p (l.set i u) := by
  have hp := rows_put6e h.own hn hi u
  have n0 : gd ≠ g0 := fun e => by have := h.own.apartT h.t (by decide); exact this (by rw [e]; rfl)
  have n2 : gd ≠ g2 := fun e => by have := h.own.apartT h.r (by decide); exact this (by rw [e]; rfl)
  exact ⟨hp.1, h.t.kept hp.2 (by intro e; exact n0 (Option.some.inj e).symm), h.p.kept hp.2 (by intro e; exact h.g.2.2.2.2.2.2.2 (Option.some.inj e).symm), h.r.kept hp.2 (by intro e; exact n2 (Option.some.inj e).symm), h.b.grown hp.2 h.b.size (by intro j hj; obtain rfl := Option.some.inj hj; exact h.g.2.2.2.2.2.2.1), h.g⟩
/-- The boxes and the empty list, ahead of the append. -/
structure PutPre (w W : World) (g0 g1 g2 g3 : Nat) (v : Value) (m la no : Int) (p : ProcD) : Prop where
  own : OwnsR' (g2 + 1) W 78 6 (.slice (some ⟨g3, 0, none⟩) 0 0) []
  t : BoxR W g0 v m la no
  p : BoxQ W g1 p
  r : BoxR W g2 (.slice none 0 0) 0 0 0
  b : Below w.heap.size w W
  g : w.heap.size ≤ g0 ∧ g0 < g1 ∧ g1 < g2 ∧ g2 < W.heap.size
theorem putPre_new (w : World) (v : Value) (m la no : Int) (p : ProcD) : ∃ w1 w2 w3 w4 g0 g1 g2 g3,
    w.alloc (.cells #[v, .int .i64 m, .int .i64 la, .int .i64 no] 28) = w1 ∧ w1.alloc (.cells #[.int .i64 p.pid, .int .i64 p.parent, .int .i64 p.state, .int .i64 p.code, .int .i64 p.til, .bool p.killed] 78) = w2 ∧
    w2.alloc (.cells #[.slice none 0 0, .int .i64 0, .int .i64 0, .int .i64 0] 28) = w3 ∧ w3.alloc (.cells #[] 78) = w4 ∧ w.heap.size = g0 ∧ w1.heap.size = g1 ∧ w2.heap.size = g2 ∧ w3.heap.size = g3 ∧ Hid (PutPre w w4 g0 g1 g2 g3 v m la no p) := by
  refine ⟨_, _, _, _, _, _, _, _, rfl, rfl, rfl, rfl, rfl, rfl, rfl, rfl, Lib.hid ?_⟩
  generalize h1 : w.alloc (.cells #[v, .int .i64 m, .int .i64 la, .int .i64 no] 28) = w1
  generalize h2 : w1.alloc (.cells #[.int .i64 p.pid, .int .i64 p.parent, .int .i64 p.state, .int .i64 p.code, .int .i64 p.til, .bool p.killed] 78) = w2
  generalize h3 : w2.alloc (.cells #[.slice none 0 0, .int .i64 0, .int .i64 0, .int .i64 0] 28) = w3
  have s1 : w1.heap.size = w.heap.size + 1 := by rw [← h1]; simp
  have s2 : w2.heap.size = w1.heap.size + 1 := by rw [← h2]; simp
  have s3 : w3.heap.size = w2.heap.size + 1 := by rw [← h3]; simp
  have b1 : Below w.heap.size w w1 := by rw [← h1]; exact below_box _ _
  have b2 : Below w1.heap.size w1 w2 := by rw [← h2]; exact below_box _ _
  have b3 : Below w2.heap.size w2 w3 := by rw [← h3]; exact below_box _ _
  have b4 := below_box w3 (.cells #[] 78)
  have n1 : BoxR w1 w.heap.size v m la no := by rw [← h1]; exact heap_alloc_new w _
  have n2 : BoxQ w2 w1.heap.size p := by rw [← h2]; exact heap_alloc_new w1 _
  have n3 : BoxR w3 w2.heap.size (.slice none 0 0) 0 0 0 := by rw [← h3]; exact heap_alloc_new w2 _
  exact ⟨OwnsR'.new (by simp) (by omega) (by unfold maxLen; simp) rfl, ((n1.below b2).below b3).below b4, (n2.below b3).below b4, n3.below b4, below_next (below_next (below_next b1 b2) b3) b4, Nat.le_refl _, by omega, by omega, by have := b4.size; omega⟩
theorem PutPre.after {w W W5 : World} {g0 g1 g2 g3 n : Nat} {v v5 : Value} {m la no : Int} {p : ProcD} {l : List ProcD} (h : PutPre w W g0 g1 g2 g3 v m la no p) (hn : l.length = n) (h1 : 1 ≤ n)
    (o : OwnsR' (g2 + 1) W5 78 6 v5 (procsV l)) (k : W.grownBy W5 (some g3)) :
    ∃ gd c W6, v5 = .slice (some ⟨gd, 0, none⟩) n c ∧ W5.setCell ⟨g0, 0, none⟩ (.slice (some ⟨gd, 0, none⟩) n c) = W6 ∧ W5.cell? ⟨g0, 0, none⟩ = some v ∧ W5.frozen? ⟨g0, 0, none⟩ = false ∧ Hid (PutSt w W6 g0 g1 g2 gd n c m la no p l) := by
  obtain ⟨gd, c, hv⟩ := own_formT o (by rw [procsV_length]; omega)
  rw [procsV_length, hn] at hv
  subst hv
  obtain ⟨q0, q1, q2, q3⟩ := h.g
  have hg3 := (h.own.lt g3 rfl).1
  have t5 := h.t.kept k (by intro e; have := Option.some.inj e; omega)
  have p5 := h.p.kept k (by intro e; have := Option.some.inj e; omega)
  have r5 := h.r.kept k (by intro e; have := Option.some.inj e; omega)
  have b5 : Below w.heap.size w W5 := h.b.grown k h.b.size (by intro j hj; obtain rfl := Option.some.inj hj; omega)
  have gg := grown_setCellT W5 ⟨g0, 0, none⟩ (.slice (some ⟨gd, 0, none⟩) n c)
  have hgd := (o.lt gd rfl).1
  have t6 : BoxR (W5.setCell ⟨g0, 0, none⟩ (.slice (some ⟨gd, 0, none⟩) n c)) g0 (.slice (some ⟨gd, 0, none⟩) n c) m la no := heap_setCell_same W5 g0 0 _ _ _ t5
  refine ⟨gd, c, _, rfl, rfl, t5.cells.1.1, t5.cells.2.1 0, Lib.hid ⟨(o.less (by omega)).kept gg (.inr (by intro e; have : gd = g0 := Option.some.inj e; omega)), t6, p5.kept gg (by intro e; have : g1 = g0 := Option.some.inj e; omega), r5.kept gg (by intro e; have : g2 = g0 := Option.some.inj e; omega), b5.setCell (p := ⟨g0, 0, none⟩) q0 _, q0, by omega, by omega, by omega, by omega, by omega, by omega, by omega⟩⟩
/-- What the drawn region keeps. -/
def PutS (w : World) (g0 g1 g2 gd n c : Nat) (m la no : Int) (p : ProcD) (i : Nat) (W : World) : Prop := ∃ l, PutSt w W g0 g1 g2 gd n c m la no p l ∧ l.length = n ∧ findI l p.pid = (i : Int)
theorem findI_set {l : List ProcD} {i : Nat} {p : ProcD} (h : findI l p.pid = (i : Int)) (hi : i < l.length) : findI (l.set i p) p.pid = (i : Int) := by
  rcases firstT_or (pidB p.pid) l with ⟨h1, _⟩ | ⟨j, s, h1, h2, h3, h4⟩
  · have : findI l p.pid = -1 := h1
    omega
  · have e : (j : Int) = (i : Int) := h1.symm.trans h
    obtain rfl : j = i := by omega
    rcases firstT_or (pidB p.pid) (l.set j p) with ⟨_, k2⟩ | ⟨q, t, k1, k2, k3, k4⟩
    · have := k2 p (List.mem_of_getElem? (List.getElem?_set_self hi))
      rw [show pidB p.pid p = true from decide_eq_true rfl] at this
      cases this
    · have hq : ¬ j < q := fun hlt => by
        have := k4 j p hlt (List.getElem?_set_self hi)
        rw [show pidB p.pid p = true from decide_eq_true rfl] at this
        cases this
      have hq2 : ¬ q < j := fun hlt => by
        rw [List.getElem?_set_ne (by omega)] at k2
        rw [h4 q t hlt k2] at k3
        cases k3
      obtain rfl : q = j := by omega
      exact k1
set_option maxHeartbeats 1600000 in
theorem rput22_is (a : Option Addr) (c : Nat) (l : List ProcD) (m la no : Int) (i : Nat) (p s : ProcD) (hu : l[i]? = some s) (hi : findI l p.pid = (i : Int)) (hl : l.length ≤ 16) (w : World) (hr : ReadsR w a 6 (procsV l)) :
    Calls Try.prog 80 #[.agg #[.slice a l.length c, .int .i64 m, .int .i64 la, .int .i64 no], procA p] w fun e w' => ∃ g c', e = .returned (.agg #[.slice (some ⟨g, 0, none⟩) l.length c', .int .i64 m, .int .i64 la, .int .i64 no]) ∧ OwnsR' w.heap.size w' 78 6 (.slice (some ⟨g, 0, none⟩) l.length c') (procsV (l.set i p)) ∧ Below w.heap.size w w' := by
  obtain ⟨w1, w2, w3, w4, g0, g1, g2, g3, hw1, hw2, hw3, hw4, hg0, hg1, hg2, hg3, HP⟩ := putPre_new w (.slice a l.length c) m la no p
  have HR := Lib.hid (hr.below HP.out.b)
  have hil := (List.getElem?_eq_some_iff.1 hu).1
  obtain ⟨n, hn⟩ : ∃ n, l.length = n := ⟨_, rfl⟩
  have HNF := Lib.hid (show (procsV l).length = n by rw [procsV_length]; exact hn)
  have HN := Lib.hid hn
  have HU := Lib.hid hu
  have HI := Lib.hid hi
  have HSZ := Lib.hid (show g2 + 1 ≤ w4.heap.size from HP.out.g.2.2.2)
  have HG0 := Lib.hid hg0
  rw [hn] at hw1 HP hl hil ⊢
  unfold procA procV
  clear hr hn hu hi
  go_enter Try.func80, Try.ntmps80
  obtain ⟨⟨t0, t1, t2, t3⟩, tf, _⟩ := HP.out.t.cells
  go_upto_region 2 with (at_builtin; refine wpList_append_rows' rfl _ _ 26 rfl (g2 + 1) 78 _ 6 48 Try.underlying26 info_rproc rfl (by decide) _ [] (by rfl) HP.out.own _ _ (procsV l) (by rw [HNF.out]; rfl) HR.out (procsV_one l) (by rw [HNF.out]; simp; omega) (by rw [HNF.out]; unfold maxLen; simp; omega) HSZ.out ?_; intro v5 w5 o5 k5; rw [List.nil_append] at o5; obtain ⟨gd, cd, w6, rfl, hw6, s0, f0, HS⟩ := HP.out.after HN.out (by omega) o5 k5; clear o5 k5)
  have HAT := Lib.hid (fun (W : World) (hW : PutS w g0 g1 g2 gd n cd m la no p i W) => by
    obtain ⟨l', hst, hn', hi'⟩ := hW
    obtain ⟨a9, c9, e9, hr9, _, _⟩ := hst.own.reads
    rw [procsV_length, hn'] at e9
    cases e9
    have := rat_is m la no (some ⟨gd, 0, none⟩) cd l' p.pid W hr9 (by rw [hn']; exact hl)
    rw [hn', hi'] at this
    exact this)
  have HX := Lib.hid (fun (W : World) (k : PutSt w W g0 g1 g2 gd n cd m la no p l) => by
    have hh := k.own.head.2.2 i _ (procsV_get HU.out)
    have h0 : W.cell? ⟨gd, i * 6, none⟩ = some (.int .i64 s.pid) := hh 0 _ rfl
    have h1 : W.cell? ⟨gd, i * 6 + 1, none⟩ = some (.int .i64 s.parent) := hh 1 _ rfl
    have h2 : W.cell? ⟨gd, i * 6 + 2, none⟩ = some (.int .i64 s.state) := hh 2 _ rfl
    have h3 : W.cell? ⟨gd, i * 6 + 3, none⟩ = some (.int .i64 s.code) := hh 3 _ rfl
    have h4 : W.cell? ⟨gd, i * 6 + 4, none⟩ = some (.int .i64 s.til) := hh 4 _ rfl
    have h5 : W.cell? ⟨gd, i * 6 + 5, none⟩ = some (.bool s.killed) := hh 5 _ rfl
    exact And.intro (And.intro h0 (And.intro h1 (And.intro h2 (And.intro h3 (And.intro h4 h5))))) (And.intro (fun j => k.own.frozen HNF.out j) (k.put HN.out hil p)))
  have hsx : ∀ (W : World), PutSt w W g0 g1 g2 gd n cd m la no p l → (W.cell? ⟨g0, 0, none⟩ = some (.slice (some ⟨gd, 0, none⟩) n cd) ∧ W.cell? ⟨g0, 1, none⟩ = some (.int .i64 m) ∧ W.cell? ⟨g0, 2, none⟩ = some (.int .i64 la) ∧ W.cell? ⟨g0, 3, none⟩ = some (.int .i64 no) ∧ W.cell? ⟨g1, 0, none⟩ = some (.int .i64 p.pid) ∧ W.cell? ⟨g1, 1, none⟩ = some (.int .i64 p.parent) ∧ W.cell? ⟨g1, 2, none⟩ = some (.int .i64 p.state) ∧ W.cell? ⟨g1, 3, none⟩ = some (.int .i64 p.code) ∧ W.cell? ⟨g1, 4, none⟩ = some (.int .i64 p.til) ∧ W.cell? ⟨g1, 5, none⟩ = some (.bool p.killed) ∧ PutS w g0 g1 g2 gd n cd m la no p i W) := fun W k =>
    ⟨k.t.cells.1.1, k.t.cells.1.2.1, k.t.cells.1.2.2.1, k.t.cells.1.2.2.2, k.p.cells.1.1, k.p.cells.1.2.1, k.p.cells.1.2.2.1, k.p.cells.1.2.2.2.1, k.p.cells.1.2.2.2.2.1, k.p.cells.1.2.2.2.2.2, l, k, HN.out, HI.out⟩
  have hsx2 : ∀ (W : World), PutSt w W g0 g1 g2 gd n cd m la no p (l.set i p) → (W.cell? ⟨g0, 0, none⟩ = some (.slice (some ⟨gd, 0, none⟩) n cd) ∧ W.cell? ⟨g0, 1, none⟩ = some (.int .i64 m) ∧ W.cell? ⟨g0, 2, none⟩ = some (.int .i64 la) ∧ W.cell? ⟨g0, 3, none⟩ = some (.int .i64 no) ∧ W.cell? ⟨g1, 0, none⟩ = some (.int .i64 p.pid) ∧ W.cell? ⟨g1, 1, none⟩ = some (.int .i64 p.parent) ∧ W.cell? ⟨g1, 2, none⟩ = some (.int .i64 p.state) ∧ W.cell? ⟨g1, 3, none⟩ = some (.int .i64 p.code) ∧ W.cell? ⟨g1, 4, none⟩ = some (.int .i64 p.til) ∧ W.cell? ⟨g1, 5, none⟩ = some (.bool p.killed) ∧ PutS w g0 g1 g2 gd n cd m la no p i W) := fun W k =>
    ⟨k.t.cells.1.1, k.t.cells.1.2.1, k.t.cells.1.2.2.1, k.t.cells.1.2.2.2, k.p.cells.1.1, k.p.cells.1.2.1, k.p.cells.1.2.2.1, k.p.cells.1.2.2.2.1, k.p.cells.1.2.2.2.2.1, k.p.cells.1.2.2.2.2.2, l.set i p, k, by rw [List.length_set]; exact HN.out, findI_set HI.out (by rw [HN.out]; exact hil)⟩
  have HSX := Lib.hid hsx
  have HSX2 := Lib.hid hsx2
  clear hsx hsx2
  have hx0 : (0 : Int) ≤ (i : Int) := by omega
  have hx1 : (i : Int) < (n : Int) := by omega
  have HIL := Lib.hid (And.intro hil hl)
  have HD := Lib.hid (HS.out.below (below_drew w6))
  clear t0 t1 t2 t3 tf hw6 s0 f0 HP HR HSZ hw1 hw2 hw3 hw4 hg0 hg1 hg2 hg3
  go_cut [15] (fun v15 wc => Hid (PutSt w wc g0 g1 g2 gd n cd m la no p (l.set i p)))
  case first =>
    go_region_held3 (fun W => W.cell? ⟨g0, 0, none⟩ = some (.slice (some ⟨gd, 0, none⟩) n cd) ∧ W.cell? ⟨g0, 1, none⟩ = some (.int .i64 m) ∧ W.cell? ⟨g0, 2, none⟩ = some (.int .i64 la) ∧ W.cell? ⟨g0, 3, none⟩ = some (.int .i64 no) ∧ W.cell? ⟨g1, 0, none⟩ = some (.int .i64 p.pid) ∧ W.cell? ⟨g1, 1, none⟩ = some (.int .i64 p.parent) ∧ W.cell? ⟨g1, 2, none⟩ = some (.int .i64 p.state) ∧ W.cell? ⟨g1, 3, none⟩ = some (.int .i64 p.code) ∧ W.cell? ⟨g1, 4, none⟩ = some (.int .i64 p.til) ∧ W.cell? ⟨g1, 5, none⟩ = some (.bool p.killed) ∧ PutS w g0 g1 g2 gd n cd m la no p i W)
      (first | assumption | exact HSX.out _ HS.out | exact HSX.out _ HD.out | exact HSX.out _ HSC.out | exact HSX2.out _ HPUT.out)
      ((go_at_call 79; (with_reducible refine (HAT.out _ (by first | exact And.right (And.right (And.right (And.right (And.right (And.right (And.right (And.right (And.right (And.right (by assumption)))))))))))).mono ?_); rintro e wi ⟨rfl, bi⟩; have HSC := Lib.hid (HD.out.below bi); obtain ⟨⟨r0, r1, r2, r3, r4, r5⟩, rf, hput⟩ := HX.out wi HSC.out; obtain ⟨W7, hW7⟩ : ∃ W7, put6 wi gd i p = W7 := ⟨_, rfl⟩; rw [hW7] at hput; have HPUT := Lib.hid hput; clear hput; simp only [put6] at hW7))
    go_wp2_with fail
    go_meet
    exact HPUT
  case rest =>
    have HS7 := hcut
    obtain ⟨⟨y0, y1, y2, y3⟩, _, _⟩ := HS7.out.t.cells
    obtain ⟨⟨q0, q1, q2, q3⟩, qf, _⟩ := HS7.out.r.cells
    have G := Lib.hid (HS7.out.r.set4 (.slice (some ⟨gd, 0, none⟩) n cd) m la no)
    go_wp2
    refine bodyPost_ret (results_rt1 rfl _ _ g2 rfl G.out.1) rfl ⟨gd, cd, rfl, ?_, ?_⟩
    · exact HS7.out.own.kept G.out.2 (.inr (by intro e; have e9 : gd = g2 := Option.some.inj e; have h9 := HS7.out.own.apartT HS7.out.r (by decide); exact h9 (by rw [e9]; rfl)))
    · exact HS7.out.b.grown G.out.2 HS7.out.b.size (fun j hj => by obtain rfl := Option.some.inj hj; exact HS7.out.g.2.2.1)
end Go.Proofs.Ytnengblmcfiajaa
