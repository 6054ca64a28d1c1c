/- The document's disk: flushed. -/
import Derived.Test.YthainmbapikjiaaGjomfmieg
namespace Go.Proofs.Ythainmbapikjiaa
open Go.RowKit Go.Sort
set_option linter.unusedVariables false
set_option linter.unusedSimpArgs false
set_option maxRecDepth 100000

/-- The document's disk, as a value, is this one. -/
def RefIs (B : Nat) (w : World) (D : DiskD) (v : Value) : Prop := ∃ sa sc qa qc, v = refV sa D.secs.length sc qa D.cache.length qc D.dead (armI D) D.deeds ∧ OwnsR' B w 39 128 (.slice sa D.secs.length sc) (secR D.secs) ∧ OwnsR' B w 41 129 (.slice qa D.cache.length qc) (rowsW D.cache)
theorem RefIs.below {B : Nat} {w w' : World} {D : DiskD} {v : Value} (h : RefIs B w D v) (b : Below w.heap.size w w') : RefIs B w' D v := by
  obtain ⟨sa, sc, qa, qc, e, h1, h2⟩ := h
  exact ⟨sa, sc, qa, qc, e, h1.below b, h2.below b⟩
theorem owns_room {B : Nat} {w : World} {e : TypeId} {k n c : Nat} {a : Option Addr} {l : List (List Value)} (h : OwnsR' B w e k (.slice a n c) l) : ReadsR w a k l ∧ l.length = n ∧ n ≤ c := by
  obtain ⟨a', c', e1, h1, h2, _⟩ := h.reads
  cases e1
  exact ⟨h1, rfl, h2⟩
theorem dead_deed {D : DiskD} (h : D.dead = true) : deedE D = 20 ∧ flushD D = D := by
  have hs : strikeB D = true := by unfold strikeB; rw [h]; rfl
  refine ⟨by unfold deedE; rw [if_pos hs], ?_⟩
  unfold flushD
  rw [if_pos hs]
  unfold strikeD
  rw [hs, Bool.not_true, Bool.and_false, if_neg (by decide)]
  cases D
  simp at h
  subst h
  rfl
theorem flush_yes {D : DiskD} (h : strikeB D = false) : deedE D = 0 ∧ flushD D = { deedD D with secs := settles D.cache D.secs, cache := [] } := by
  refine ⟨by unfold deedE; rw [if_neg (by rw [h]; decide)], ?_⟩
  unfold flushD
  rw [if_neg (by rw [h]; decide)]
theorem flush_no {D : DiskD} (h : strikeB D = true) : deedE D = 20 ∧ flushD D = deedD D := by
  refine ⟨by unfold deedE; rw [if_pos h], ?_⟩
  unfold flushD deedD
  rw [if_pos h, if_pos h]
theorem two_cells {w w1 : World} {C1 C2 : Array Value} {t1 t2 : TypeId} (b : Below ((w.alloc (.cells C1 t1)).alloc (.cells C2 t2)).heap.size ((w.alloc (.cells C1 t1)).alloc (.cells C2 t2)) w1) :
    Below w.heap.size w w1 ∧ w1.heap[w.heap.size]? = some (.cells C1 t1 (0, 0)) ∧ w1.heap[w.heap.size + 1]? = some (.cells C2 t2 (0, 0)) ∧ w.heap.size + 2 ≤ w1.heap.size := by
  have s1 : (w.alloc (.cells C1 t1)).heap.size = w.heap.size + 1 := by simp
  have s2 : ((w.alloc (.cells C1 t1)).alloc (.cells C2 t2)).heap.size = w.heap.size + 1 + 1 := by rw [← s1]; simp
  have k2 := below_box (w.alloc (.cells C1 t1)) (.cells C2 t2)
  refine ⟨below_next (below_next (below_box w (.cells C1 t1)) k2) b, ?_, ?_, by have := b.size; omega⟩
  · rw [b.block _ (by omega), k2.block _ (by omega), heap_alloc_new]
  · rw [b.block _ (by omega), ← s1, heap_alloc_new]
def FlushPost (B : Nat) (w : World) (D : DiskD) (e : Ending) (w' : World) : Prop := ∃ v, e = .returned (.tuple #[v, .int .i64 (deedE D)]) ∧ RefIs B w' (flushD D) v ∧ Below w.heap.size w w'
set_option maxHeartbeats 400000 in
theorem rflush_is {B : Nat} {w : World} {D : DiskD} {v : Value} (h : RefIs B w D v) (hB : B ≤ w.heap.size) (hok : D.ok) (hdd : D.deeds < 1000000) : Calls Try.prog 60 #[v] w (FlushPost B w D) := by
  obtain ⟨sa, sc, qa, qc, rfl, h1, h2⟩ := h
  have H1 := Lib.hid h1
  have H2 := Lib.hid h2
  have HB := Lib.hid hB
  cases hd : D.dead with
  | true =>
    obtain ⟨e1, e2⟩ := dead_deed hd
    have HP : Hid (FlushPost B w D = fun e w' => ∃ v, e = .returned (.tuple #[v, .int .i64 20]) ∧ RefIs B w' D v ∧ Below w.heap.size w w') := Lib.hid (by unfold FlushPost; rw [e1, e2])
    rw [HP.out]
    have HR : Hid (∀ w', Below w.heap.size w w' → RefIs B w' D (refV sa D.secs.length sc qa D.cache.length qc true (armI D) D.deeds)) := Lib.hid (fun w' b => ⟨sa, sc, qa, qc, by rw [hd], h1.below b, h2.below b⟩)
    generalize D.secs.length = n at *
    generalize D.cache.length = m at *
    generalize armI D = ai at *
    generalize (D.deeds : Int) = dn at *
    clear e1 e2 hd h1 h2 HP hok hdd
    unfold refV at *
    go_enter Try.func60, Try.ntmps60
    go_wp2
    refine bodyPost_ret (results_five_tmp rfl _ _ (w.heap.size + 1) rfl (five_top2 _ _ _ _ _ _ _ _)) rfl ?_
    exact ⟨_, rfl, HR.out _ (below_two _ _ _), below_two _ _ _⟩
  | false =>
    have hdeed := fun W => rdeed_is sa D.secs.length sc qa D.cache.length qc D hok hd hdd W
    obtain ⟨r1, l1, c1⟩ := owns_room h1
    obtain ⟨r2, l2, c2⟩ := owns_room h2
    have hsl : (secR D.secs).length = D.secs.length := by unfold secR; rw [List.length_map]
    have hoz : OkZ D.secs.length D.cache := fun p hp => ⟨(hok.2.1 p hp).1, (hok.2.1 p hp).2.1⟩
    have hlay := fun (W : World) (hW : Below w.heap.size w W) (dead : Bool) (arm dn : Int) => rlay_is sa sc qa D.cache.length qc dead arm dn D.secs D.cache qa qc W (r1.below hW) (r2.below hW) hoz hok.2.2.1 hok.2.2.2.1 hok.2.2.2.2.1 c2
    have HB2 : Hid (∀ (w' : World) (a : Option Addr) (c : Nat), Below w.heap.size w w' → OwnsR' w.heap.size w' 39 128 (.slice a D.secs.length c) (secR (settles D.cache D.secs)) → RefIs B w' { deedD D with secs := settles D.cache D.secs, cache := [] } (refV a D.secs.length c none 0 0 (deedD D).dead (armI (deedD D)) (deedD D).deeds)) := Lib.hid (fun w' a c b ho => ⟨a, c, none, 0, by rw [settles_len]; rfl, by rw [settles_len]; exact ho.less hB, OwnsR'.nil _ _ _ _⟩)
    have HB1 : Hid (∀ w' : World, Below w.heap.size w w' → RefIs B w' (deedD D) (refV sa D.secs.length sc qa D.cache.length qc (deedD D).dead (armI (deedD D)) (deedD D).deeds)) := Lib.hid (fun w' b => ⟨sa, sc, qa, qc, by rw [deedD_secs, deedD_cache], by rw [deedD_secs]; exact h1.below b, by rw [deedD_cache]; exact h2.below b⟩)
    have HDEED := Lib.hid hdeed
    have HLAY := Lib.hid hlay
    obtain ⟨P, hP⟩ : ∃ P, FlushPost B w D = P := ⟨_, rfl⟩
    have HPO : Hid (∀ (e : Ending) (w' : World) (x : Value), Below w.heap.size w w' → ((strikeB D = true ∧ e = .returned (.tuple #[x, .int .i64 20]) ∧ RefIs B w' (deedD D) x) ∨ (strikeB D = false ∧ e = .returned (.tuple #[x, .int .i64 0]) ∧ RefIs B w' { deedD D with secs := settles D.cache D.secs, cache := [] } x)) → P e w') := Lib.hid (by
      rintro e w' x b (⟨q, rfl, hr⟩ | ⟨q, rfl, hr⟩)
      · obtain ⟨e1, e2⟩ := flush_no q
        rw [← hP]
        exact ⟨x, by rw [e1], by rw [e2]; exact hr, b⟩
      · obtain ⟨e1, e2⟩ := flush_yes q
        rw [← hP]
        exact ⟨x, by rw [e1], by rw [e2]; exact hr, b⟩)
    rw [hP]
    have HST : Hid (deedE D = if strikeB D then 20 else 0) := Lib.hid rfl
    generalize D.secs.length = n at *
    generalize D.cache.length = m at *
    generalize armI D = ai at *
    generalize (D.deeds : Int) = dn at *
    generalize deedE D = de at *
    generalize (deedD D).dead = dd at *
    generalize armI (deedD D) = da at *
    generalize ((deedD D).deeds : Int) = dx at *
    clear hd h1 h2 hok hdd hP hdeed hlay r1 r2 l1 l2 c1 c2 hsl hoz
    unfold refV at *
    cases hs : strikeB D with
    | true =>
      have hde : de = 20 := by have := HST.out; rw [hs] at this; exact this
      subst hde
      have HSB := Lib.hid hs
      clear HST hs HLAY HB2
      go_enter Try.func60, Try.ntmps60
      go_wp2_with fail
      refine (HDEED.out _).mono ?_
      rintro e w1 ⟨rfl, b1⟩
      obtain ⟨kb, n0, n1, hsz⟩ := two_cells b1
      have KB := Lib.hid kb
      clear b1 kb
      obtain ⟨b0, hb0⟩ : ∃ x, w.heap.size = x := ⟨_, rfl⟩
      rw [hb0] at n0 n1 hsz ⊢
      have HB0 := Lib.hid hb0
      have x0 : w1.cell? ⟨b0, 0, none⟩ = some (.slice sa n sc) := cell_of_row n0 0
      have x1 : w1.cell? ⟨b0, 1, none⟩ = some (.slice qa m qc) := cell_of_row n0 1
      have x2 : w1.cell? ⟨b0, 2, none⟩ = some (.bool false) := cell_of_row n0 2
      have x3 : w1.cell? ⟨b0, 3, none⟩ = some (.int .i64 ai) := cell_of_row n0 3
      have x4 : w1.cell? ⟨b0, 4, none⟩ = some (.int .i64 dn) := cell_of_row n0 4
      have f0 := frozen_of_row w1 b0 0 _ _ n0
      have f1 := frozen_of_row w1 b0 1 _ _ n0
      have f2 := frozen_of_row w1 b0 2 _ _ n0
      have f3 := frozen_of_row w1 b0 3 _ _ n0
      have f4 := frozen_of_row w1 b0 4 _ _ n0
      have N0 := Lib.hid n0
      have N1 := Lib.hid n1
      obtain ⟨⟨y0, y1, y2, y3, y4⟩, g2⟩ := five_set (.slice sa n sc) (.slice qa m qc) (.bool dd) (.int .i64 da) (.int .i64 dx) n0
      obtain ⟨w2, hw2⟩ : ∃ x, (((((w1.setCell ⟨b0, 0, none⟩ (.slice sa n sc)).setCell ⟨b0, 1, none⟩ (.slice qa m qc)).setCell ⟨b0, 2, none⟩ (.bool dd)).setCell ⟨b0, 3, none⟩ (.int .i64 da)).setCell ⟨b0, 4, none⟩ (.int .i64 dx)) = x := ⟨_, rfl⟩
      rw [hw2] at y0 y1 y2 y3 y4 g2
      have n12 := (g2.block (b0 + 1) (by omega) (by intro e; have : b0 + 1 = b0 := Option.some.inj e; omega)).trans n1
      have G2 := Lib.hid g2
      clear n0 n1 hb0 g2
      have F7 := Lib.hid (five_set (.slice sa n sc) (.slice qa m qc) (.bool dd) (.int .i64 da) (.int .i64 dx) n12)
      have z0 := cell_of_row n12 0
      have z1 := cell_of_row n12 1
      have z2 := cell_of_row n12 2
      have z3 := cell_of_row n12 3
      have z4 := cell_of_row n12 4
      have ff := fun i => frozen_of_row w2 (b0 + 1) i _ _ n12
      clear n12
      have K2 : Hid (Below b0 w w2) := Lib.hid (by have k := KB.out; rw [HB0.out] at k; exact k.grown G2.out (by omega) (fun i hi => by obtain rfl := Option.some.inj hi; exact Nat.le_refl _))
      go_wp2
      have BF : Hid (Below b0 w (((((w2.setCell ⟨b0 + 1, 0, none⟩ (.slice sa n sc)).setCell ⟨b0 + 1, 1, none⟩ (.slice qa m qc)).setCell ⟨b0 + 1, 2, none⟩ (.bool dd)).setCell ⟨b0 + 1, 3, none⟩ (.int .i64 da)).setCell ⟨b0 + 1, 4, none⟩ (.int .i64 dx))) := Lib.hid (K2.out.grown F7.out.2 (by have := K2.out.size; have := HB0.out; omega) (fun i hi => by obtain rfl := Option.some.inj hi; omega))
      refine bodyPost_ret (results_five_tmp rfl _ _ (b0 + 1) rfl F7.out.1) rfl ?_
      exact HPO.out _ _ _ (by rw [HB0.out]; exact BF.out) (.inl ⟨HSB.out, rfl, HB1.out _ (by rw [HB0.out]; exact BF.out)⟩)
    | false =>
      have hde : de = 0 := by have := HST.out; rw [hs] at this; exact this
      subst hde
      have HSB := Lib.hid hs
      clear HST hs HB1
      go_enter Try.func60, Try.ntmps60
      go_wp2_with fail
      refine (HDEED.out _).mono ?_
      rintro e w1 ⟨rfl, b1⟩
      obtain ⟨kb, n0, n1, hsz⟩ := two_cells b1
      have KB := Lib.hid kb
      clear b1 kb
      obtain ⟨b0, hb0⟩ : ∃ x, w.heap.size = x := ⟨_, rfl⟩
      rw [hb0] at n0 n1 hsz ⊢
      have HB0 := Lib.hid hb0
      have x0 : w1.cell? ⟨b0, 0, none⟩ = some (.slice sa n sc) := cell_of_row n0 0
      have x1 : w1.cell? ⟨b0, 1, none⟩ = some (.slice qa m qc) := cell_of_row n0 1
      have x2 : w1.cell? ⟨b0, 2, none⟩ = some (.bool false) := cell_of_row n0 2
      have x3 : w1.cell? ⟨b0, 3, none⟩ = some (.int .i64 ai) := cell_of_row n0 3
      have x4 : w1.cell? ⟨b0, 4, none⟩ = some (.int .i64 dn) := cell_of_row n0 4
      have f0 := frozen_of_row w1 b0 0 _ _ n0
      have f1 := frozen_of_row w1 b0 1 _ _ n0
      have f2 := frozen_of_row w1 b0 2 _ _ n0
      have f3 := frozen_of_row w1 b0 3 _ _ n0
      have f4 := frozen_of_row w1 b0 4 _ _ n0
      have N0 := Lib.hid n0
      have N1 := Lib.hid n1
      obtain ⟨⟨y0, y1, y2, y3, y4⟩, g2⟩ := five_set (.slice sa n sc) (.slice qa m qc) (.bool dd) (.int .i64 da) (.int .i64 dx) n0
      obtain ⟨w2, hw2⟩ : ∃ x, (((((w1.setCell ⟨b0, 0, none⟩ (.slice sa n sc)).setCell ⟨b0, 1, none⟩ (.slice qa m qc)).setCell ⟨b0, 2, none⟩ (.bool dd)).setCell ⟨b0, 3, none⟩ (.int .i64 da)).setCell ⟨b0, 4, none⟩ (.int .i64 dx)) = x := ⟨_, rfl⟩
      rw [hw2] at y0 y1 y2 y3 y4 g2
      have n12 := (g2.block (b0 + 1) (by omega) (by intro e; have : b0 + 1 = b0 := Option.some.inj e; omega)).trans n1
      have G2 := Lib.hid g2
      clear n0 n1 hb0 g2
      have N12 := Lib.hid n12
      clear n12
      have K2 : Hid (Below b0 w w2) := Lib.hid (by have k := KB.out; rw [HB0.out] at k; exact k.grown G2.out (by omega) (fun i hi => by obtain rfl := Option.some.inj hi; exact Nat.le_refl _))
      go_wp2_with fail
      refine (HLAY.out w2 (by rw [HB0.out]; exact K2.out) dd da dx).mono ?_
      rintro e w3 ⟨a3, c3, rfl, o3, b3⟩
      unfold refV
      have n13 := (b3.block (b0 + 1) (Array.getElem?_eq_some_iff.1 N12.out).1).trans N12.out
      have F7 := Lib.hid (five_set (.slice a3 n c3) (.slice none 0 0) (.bool dd) (.int .i64 da) (.int .i64 dx) n13)
      have z0 := cell_of_row n13 0
      have z1 := cell_of_row n13 1
      have z2 := cell_of_row n13 2
      have z3 := cell_of_row n13 3
      have z4 := cell_of_row n13 4
      have ff := fun i => frozen_of_row w3 (b0 + 1) i _ _ n13
      have K3 := Lib.hid (K2.out.trans (b3.mono (by have := K2.out.size; have := HB0.out; omega)))
      have O3 := Lib.hid o3
      have L2 : Hid (b0 + 2 ≤ w2.heap.size) := Lib.hid (by have := G2.out.size; omega)
      clear n13 b3 o3 hw2 x0 x1 x2 x3 x4 y0 y1 y2 y3 y4 f0 f1 f2 f3 f4
      go_wp2
      have BF : Hid (Below b0 w (((((w3.setCell ⟨b0 + 1, 0, none⟩ (.slice a3 n c3)).setCell ⟨b0 + 1, 1, none⟩ (.slice none 0 0)).setCell ⟨b0 + 1, 2, none⟩ (.bool dd)).setCell ⟨b0 + 1, 3, none⟩ (.int .i64 da)).setCell ⟨b0 + 1, 4, none⟩ (.int .i64 dx))) := Lib.hid (K3.out.grown F7.out.2 (by have := K3.out.size; have := HB0.out; omega) (fun i hi => by obtain rfl := Option.some.inj hi; omega))
      refine bodyPost_ret (results_five_tmp rfl _ _ (b0 + 1) rfl F7.out.1) rfl ?_
      refine HPO.out _ _ _ (by rw [HB0.out]; exact BF.out) (.inr ⟨HSB.out, rfl, HB2.out _ a3 c3 (by rw [HB0.out]; exact BF.out) ?_⟩)
      refine (O3.out.kept F7.out.2 ?_).less (by have := L2.out; have := HB0.out; omega)
      rcases ho : (Value.slice a3 n c3).ownBlock with _ | j
      · exact .inl rfl
      · right
        intro e
        have h1 := O3.out.lt j ho
        have : j = b0 + 1 := Option.some.inj e
        have := L2.out
        omega
end Go.Proofs.Ythainmbapikjiaa
