/- An act on both disks. -/
import Derived.Test.YthainmbapikjiaaGpdmbpnkp
import Derived.Test.YthainmbapikjiaaGgilbmfob
import Derived.Test.YthainmbapikjiaaGdehfehbe
import Derived.Test.YthainmbapikjiaaGhffjbfop
namespace Go.Proofs.Ythainmbapikjiaa
open Go.RowKit Go.Sort
set_option linter.unusedVariables false
set_option linter.unusedSimpArgs false
set_option maxRecDepth 100000

theorem OwnsR'.dkeeps {B B' : Nat} {w w' : World} {g gs : Nat} {cv v : Value} {D : DiskD} {e : TypeId} {k : Nat} {l : List (List Value)} (h : OwnsR' B w e k v l) (hd : IsDisk B' w g gs cv D) (hk : DKeeps g gs cv w w') (h1 : e ≠ 126) (h2 : e ≠ 106) (h3 : e ≠ 130) : OwnsR' B w' e k v l := by
  refine owns_same h fun j hj => ?_
  obtain ⟨h0, h1', ⟨rfl, _⟩ | ⟨g', cap, cur, rfl, hB, hg, _⟩⟩ := h
  · cases hj
  · have hj' : g' = j := Option.some.inj hj
    subst hj'
    refine hk.block g' (Array.getElem?_eq_some_iff.1 hg).1 (nblock hg hd.1 h1) (nblock hg hd.2.1 h2) ?_
    intro e9
    obtain ⟨_, ⟨rfl, _⟩ | ⟨g9, c9, cur9, rfl, _, hg9, _⟩⟩ := hd.2.2.1
    · cases e9
    · have : g9 = g' := Option.some.inj e9
      exact nblock hg hg9 h3 this.symm
theorem RefIs.dkeeps {B B' : Nat} {w w' : World} {g gs : Nat} {cv v : Value} {D D' : DiskD} (h : RefIs B w D' v) (hd : IsDisk B' w g gs cv D) (hk : DKeeps g gs cv w w') : RefIs B w' D' v := by
  obtain ⟨sa, sc, qa, qc, e, h1, h2⟩ := h
  exact ⟨sa, sc, qa, qc, e, h1.dkeeps hd hk (by decide) (by decide) (by decide), h2.dkeeps hd hk (by decide) (by decide) (by decide)⟩
theorem armI_armD (D : DiskD) (n : Int) : (armD D n).secs = D.secs ∧ (armD D n).cache = D.cache := by unfold armD; split <;> exact ⟨rfl, rfl⟩
/-- Put, of both kinds. -/
theorem rput_is {B : Nat} {w : World} {D : DiskD} {v : Value} (h : RefIs B w D v) (hB : B ≤ w.heap.size) (hok : D.ok) (hdd : D.deeds < 1000000) (hc : D.cache.length < 1000000) (at_ : Int) (s : List Nat) (hs : s.length = 128) :
    Calls Try.prog 57 #[v, .int .i64 at_, .agg (cells s)] w fun e w' => ∃ x, e = .returned (.tuple #[x, .int .i64 (writeE D at_)]) ∧ RefIs B w' (writeD D at_ s) x ∧ Below w.heap.size w w' := by
  obtain ⟨sa, sc, qa, qc, rfl, h1, h2⟩ := h
  obtain ⟨r2, l2, c2⟩ := owns_room h2
  by_cases h0 : refI D at_ = 0
  · obtain ⟨⟨ha1, ha2⟩, hdead⟩ := refI_zero h0
    obtain ⟨n, rfl⟩ := Int.eq_ofNat_of_zero_le ha1
    have e1 : writeD D n s = deedD (pushD D (n, s)) := by unfold writeD; rw [if_neg (by simp [h0])]; rfl
    have e2 : writeE D n = deedE D := by unfold writeE; rw [if_neg (by simp [h0])]
    rw [e1, e2]
    refine (rput_yes sa D.secs.length sc qa qc D n s hs hdead hdd hok.2.2.2.2.2.2 (by omega) hc w r2).mono ?_
    rintro e w' ⟨x, ho, ⟨a, c, rfl, rfl⟩, hb⟩
    refine ⟨_, rfl, ⟨sa, sc, a, c, ?_, ?_, ?_⟩, hb⟩
    · rw [deedD_secs, deedD_cache]
      show refV sa D.secs.length sc a (D.cache.length + 1) c _ _ _ = refV sa D.secs.length sc a (D.cache ++ [(n, s)]).length c _ _ _
      rw [List.length_append]
      rfl
    · rw [deedD_secs]
      exact h1.below hb
    · rw [deedD_cache]
      show OwnsR' B w' _ 129 (.slice a (D.cache ++ [(n, s)]).length c) (rowsW (D.cache ++ [(n, s)]))
      rw [List.length_append]
      exact ho.less hB
  · have e1 : writeD D at_ s = D := by unfold writeD; rw [if_pos h0]
    have e2 : writeE D at_ = refI D at_ := by unfold writeE; rw [if_pos h0]
    rw [e1, e2]
    have HR : Hid (∀ w', Below w.heap.size w w' → RefIs B w' D (refV sa D.secs.length sc qa D.cache.length qc D.dead (armI D) D.deeds)) := Lib.hid (fun w' b => ⟨sa, sc, qa, qc, rfl, h1.below b, h2.below b⟩)
    have HMAY := Lib.hid (fun (W : World) => rmay_is sa D.secs.length sc qa D.cache.length qc D.dead (armI D) D.deeds at_ W)
    rw [mayR_ref] at HMAY
    obtain ⟨ri, hri⟩ : ∃ x, refI D at_ = x := ⟨_, rfl⟩
    rw [hri] at HMAY h0 ⊢
    clear h1 h2 r2 l2 c2 hok hdd hc hri e1 e2
    generalize D.secs.length = n at *
    generalize D.cache.length = m at *
    generalize armI D = ai at *
    generalize (D.deeds : Int) = dn at *
    generalize D.dead = dd at *
    unfold refV at *
    have h9 : (ri != 0) = true := by simpa using h0
    go_enter Try.func57, Try.ntmps57
    go_wp2_with fail
    refine (HMAY.out _).mono ?_
    rintro e w1 ⟨rfl, b1⟩
    obtain ⟨kb, n0, n1, n2, hsz⟩ := three_at b1
    rw [heap_alloc_new] at n0
    have hs1 : (w.alloc (.cells #[.slice sa n sc, .slice qa m qc, .bool dd, .int .i64 ai, .int .i64 dn] 28)).heap.size = w.heap.size + 1 := by simp
    have hs2 : ((w.alloc (.cells #[.slice sa n sc, .slice qa m qc, .bool dd, .int .i64 ai, .int .i64 dn] 28)).alloc (.cells (cells s) 39)).heap.size = w.heap.size + 1 + 1 := by rw [← hs1]; simp
    rw [← hs2, heap_alloc_new, hs2] at n2
    obtain ⟨b0, hb0⟩ : ∃ x, w.heap.size = x := ⟨_, rfl⟩
    rw [hb0] at n0 n2 hsz ⊢
    have HB0 := Lib.hid hb0
    have KB := Lib.hid kb
    have x0 : w1.cell? ⟨b0, 0, none⟩ = some (.slice sa n sc) := cell_of_row n0 0
    have x1 : w1.cell? ⟨b0, 1, none⟩ = some (.slice qa m qc) := cell_of_row n0 1
    have x2 : w1.cell? ⟨b0, 2, none⟩ = some (.bool dd) := cell_of_row n0 2
    have x3 : w1.cell? ⟨b0, 3, none⟩ = some (.int .i64 ai) := cell_of_row n0 3
    have x4 : w1.cell? ⟨b0, 4, none⟩ = some (.int .i64 dn) := cell_of_row n0 4
    have F7 := Lib.hid (five_set (.slice sa n sc) (.slice qa m qc) (.bool dd) (.int .i64 ai) (.int .i64 dn) n2)
    have z0 := cell_of_row n2 0
    have z1 := cell_of_row n2 1
    have z2 := cell_of_row n2 2
    have z3 := cell_of_row n2 3
    have z4 := cell_of_row n2 4
    have ff := fun i => frozen_of_row w1 (b0 + 1 + 1) i _ _ n2
    clear n0 n1 n2 hs1 hs2 kb b1
    go_wp2
    refine bodyPost_ret (results_five_tmp rfl _ _ (b0 + 1 + 1) rfl F7.out.1) rfl ?_
    have BF : Below b0 w _ := (show Below b0 w w1 by rw [← hb0]; exact KB.out).grown F7.out.2 (by omega) (fun i hi => by obtain rfl := Option.some.inj hi; omega)
    exact ⟨_, rfl, HR.out _ (by rw [hb0]; exact BF), by rw [hb0]; exact BF⟩
/-- A disk that isn't armed stays so, but by Arm. -/
def Calm (kd : Int) (D D' : DiskD) : Prop := (kd ≠ 3 → D.armed = false → D.dead = false → D'.armed = false ∧ D'.dead = false) ∧ ((D.armed = false → D.left = 0) → D'.armed = false → D'.left = 0)
theorem calm_same (kd : Int) (D : DiskD) : Calm kd D D := ⟨fun _ a b => ⟨a, b⟩, fun h => h⟩
theorem calm_arm (D : DiskD) (n : Int) : Calm 3 D (armD D n) := by
  refine ⟨fun h => absurd rfl h, fun h => ?_⟩
  unfold armD
  split
  · exact h
  · intro h2
    have h3 : ¬ 0 ≤ n := by simpa using h2
    show n.toNat = 0
    omega
theorem strike_calm {D : DiskD} : (D.armed = false → D.dead = false → strikeB D = false) ∧ (strikeD D).armed = D.armed ∧ (strikeD D).dead = strikeB D ∧ (D.armed = false → (strikeD D).left = D.left) := by
  refine ⟨fun h1 h2 => by unfold strikeB; rw [h1, h2]; rfl, rfl, rfl, fun h => ?_⟩
  unfold strikeD
  simp [h]
theorem calm_deed (kd : Int) (D : DiskD) : Calm kd D (deedD D) := by
  obtain ⟨h1, h2, h3, h4⟩ := @strike_calm D
  have e1 : (deedD D).armed = D.armed := by unfold deedD; split <;> exact h2
  have e2 : (deedD D).dead = strikeB D := by unfold deedD; split <;> exact h3
  have e3 : (deedD D).left = (strikeD D).left := by unfold deedD; split <;> rfl
  refine ⟨fun _ a b => ⟨e1.trans a, e2.trans (h1 a b)⟩, fun h a => ?_⟩
  rw [e1] at a
  rw [e3, h4 a]
  exact h a
theorem calm_flush (kd : Int) (D : DiskD) : Calm kd D (flushD D) := by
  have h := calm_deed kd D
  unfold flushD
  split
  · rename_i hs
    have e : deedD D = strikeD D := if_pos hs
    rw [← e]; exact h
  · exact h
theorem calm_write (kd : Int) (D : DiskD) (at_ : Int) (s : List Nat) : Calm kd D (writeD D at_ s) := by
  unfold writeD
  split
  · exact calm_same _ _
  · exact calm_deed kd (pushD D (at_.toNat, s))
theorem calm_crash (kd : Int) (D : DiskD) (ks : List Bool) : Calm kd D (crashD D ks) := ⟨fun _ _ _ => ⟨rfl, rfl⟩, fun _ _ => rfl⟩
/-- What an act on both leaves. -/
def DoPost (kd : Int) (B : Nat) (w : World) (g gs : Nat) (cv : Value) (D : DiskD) (e : Ending) (w' : World) : Prop := ∃ (D' : DiskD) (cv' v' : Value), e = .returned (.tuple #[v', .bool true]) ∧ IsDisk B w' g gs cv' D' ∧ RefIs B w' D' v' ∧ Below B w w' ∧ DKeeps g gs cv w w' ∧ D'.secs.length = D.secs.length ∧ D'.cache.length ≤ D.cache.length + 1 ∧ D'.deeds ≤ D.deeds + 1 ∧ Calm kd D D' ∧ Lies w cv cv'
theorem IsDisk.size {B : Nat} {w : World} {g gs : Nat} {cv : Value} {D : DiskD} (h : IsDisk B w g gs cv D) : B ≤ w.heap.size := Nat.le_trans h.2.2.2.2.1 (Nat.le_of_lt (Array.getElem?_eq_some_iff.1 h.1).1)
theorem three_cells (w : World) (C1 C2 C3 : Array Value) (t1 t2 t3 : TypeId) : Below w.heap.size w (((w.alloc (.cells C1 t1)).alloc (.cells C2 t2)).alloc (.cells C3 t3)) ∧ (((w.alloc (.cells C1 t1)).alloc (.cells C2 t2)).alloc (.cells C3 t3)).heap[w.heap.size]? = some (.cells C1 t1 (0, 0)) ∧
    (((w.alloc (.cells C1 t1)).alloc (.cells C2 t2)).alloc (.cells C3 t3)).heap[w.heap.size + 1]? = some (.cells C2 t2 (0, 0)) ∧ (((w.alloc (.cells C1 t1)).alloc (.cells C2 t2)).alloc (.cells C3 t3)).heap[w.heap.size + 1 + 1]? = some (.cells C3 t3 (0, 0)) ∧ w.heap.size + 3 ≤ (((w.alloc (.cells C1 t1)).alloc (.cells C2 t2)).alloc (.cells C3 t3)).heap.size := by
  obtain ⟨k, n0, n1, hs⟩ := two_cells (below_box ((w.alloc (.cells C1 t1)).alloc (.cells C2 t2)) (.cells C3 t3))
  have s1 : (w.alloc (.cells C1 t1)).heap.size = w.heap.size + 1 := by simp
  have s2 : ((w.alloc (.cells C1 t1)).alloc (.cells C2 t2)).heap.size = w.heap.size + 1 + 1 := by rw [← s1]; simp
  have s3 : (((w.alloc (.cells C1 t1)).alloc (.cells C2 t2)).alloc (.cells C3 t3)).heap.size = w.heap.size + 1 + 1 + 1 := by rw [← s2]; simp
  refine ⟨k, n0, n1, ?_, by omega⟩
  rw [← s2]
  exact heap_alloc_new _ _
theorem own_ne {B : Nat} {w : World} {b : Nat} {cs : Array Value} {e u : TypeId} {k : Nat} {v : Value} {l : List (List Value)} (h : OwnsR' B w e k v l) (hb : w.heap[b]? = some (.cells cs u (0, 0))) (hne : e ≠ u) : v.ownBlock = none ∨ v.ownBlock ≠ some b := by
  obtain ⟨_, _, ⟨rfl, _⟩ | ⟨g9, c9, cur9, rfl, _, hg9, _⟩⟩ := h
  · exact .inl rfl
  · right
    intro e9
    have : g9 = b := Option.some.inj e9
    exact nblock hg9 hb hne this
theorem RefIs.keptR {B : Nat} {w w' : World} {b : Nat} {cs : Array Value} {v : Value} {D : DiskD} (h : RefIs B w D v) (hg : w.grownBy w' (some b)) (hb : w.heap[b]? = some (.cells cs 28 (0, 0))) : RefIs B w' D v := by
  obtain ⟨sa, sc, qa, qc, e, h1, h2⟩ := h
  exact ⟨sa, sc, qa, qc, e, h1.kept hg (own_ne h1 hb (by decide)), h2.kept hg (own_ne h2 hb (by decide))⟩
theorem IsDisk.keptR {B : Nat} {w w' : World} {g gs b : Nat} {cs : Array Value} {cv : Value} {D : DiskD} (h : IsDisk B w g gs cv D) (hg : w.grownBy w' (some b)) (hb : w.heap[b]? = some (.cells cs 28 (0, 0))) : IsDisk B w' g gs cv D := by
  obtain ⟨k1, k2, k3, k4, k5, k6⟩ := h
  refine ⟨(hg.block g (Array.getElem?_eq_some_iff.1 k1).1 ?_).trans k1, (hg.block gs (Array.getElem?_eq_some_iff.1 k2).1 ?_).trans k2, k3.kept hg ?_, k4, k5, k6⟩
  · intro e; have : g = b := Option.some.inj e; exact nblock k1 hb (by decide) this
  · intro e; have : gs = b := Option.some.inj e; exact nblock k2 hb (by decide) this
  · obtain ⟨_, ⟨rfl, _⟩ | ⟨g9, c9, cur9, rfl, _, hg9, _⟩⟩ := k3
    · exact .inl rfl
    · right; intro e9; have : g9 = b := Option.some.inj e9; exact nblock hg9 hb (by decide) this
abbrev zeroR : Array Value := #[.slice none 0 0, .slice none 0 0, .bool false, .int .i64 0, .int .i64 0]
theorem lies_same {w : World} {cv cv' : Value} (h : cv' = cv ∨ cv' = .slice none 0 0) : Lies w cv cv' := by
  rcases h with rfl | rfl
  · exact .inl rfl
  · exact .inr (fun k hk => by cases hk)
theorem Lies.mono {w w' : World} {cv cv' : Value} (h : Lies w' cv cv') (hs : w.heap.size ≤ w'.heap.size) : Lies w cv cv' := by
  rcases h with h | h
  · exact .inl h
  · exact .inr (fun k hk => Nat.le_trans hs (h k hk))
theorem do_fin {kd : Int} {B : Nat} {w w9 : World} {g gs b2 : Nat} {cv cv' : Value} {D D' : DiskD} {p q r s t : Value} (hd : IsDisk B w9 g gs cv' D') (hr : RefIs B w9 D' (.agg #[p, q, r, s, t])) (hb : Below B w w9) (n2 : w9.heap[b2]? = some (.cells zeroR 28 (0, 0))) (hB2 : B ≤ b2) (hk : DKeeps g gs cv w w9) (hb2 : w.heap.size ≤ b2)
    (h1 : D'.secs.length = D.secs.length) (h2 : D'.cache.length ≤ D.cache.length + 1) (h3 : D'.deeds ≤ D.deeds + 1) (h4 : Calm kd D D') (h5 : Lies w cv cv') :
    DoPost kd B w g gs cv D (.returned (.tuple #[.agg #[p, q, r, s, t], .bool true])) (((((w9.setCell ⟨b2, 0, none⟩ p).setCell ⟨b2, 1, none⟩ q).setCell ⟨b2, 2, none⟩ r).setCell ⟨b2, 3, none⟩ s).setCell ⟨b2, 4, none⟩ t) := by
  have hg := (five_set p q r s t n2).2
  exact ⟨D', cv', _, rfl, hd.keptR hg n2, hr.keptR hg n2, hb.grown hg hd.size (fun i hi => by obtain rfl := Option.some.inj hi; exact hB2), ⟨hg.os.trans hk.os, hg.tape.trans hk.tape, hg.output.trans hk.output, Nat.le_trans hk.size hg.size, fun i hi e1 e2 e3 => (hg.block i (Nat.lt_of_lt_of_le hi hk.size) (by intro e; have : i = b2 := Option.some.inj e; omega)).trans (hk.block i hi e1 e2 e3)⟩, h1, h2, h3, h4, h5⟩
theorem ref_agg {B : Nat} {w : World} {D : DiskD} {v : Value} (h : RefIs B w D v) : ∃ xa xn xc ya yn yc dd ai dn, v = .agg #[.slice xa xn xc, .slice ya yn yc, .bool dd, .int .i64 ai, .int .i64 dn] := by
  obtain ⟨sa, sc, qa, qc, e, _, _⟩ := h
  exact ⟨_, _, _, _, _, _, _, _, _, e⟩
theorem readS_len {D : DiskD} (hok : D.ok) (i : Int) : (readS D i).length = 128 := by
  unfold readS
  split
  · rfl
  · refine readL_len _ _ _ (fun p hp => (hok.2.1 p hp).2.1) ?_
    rcases h : D.secs[i.toNat]? with _ | s
    · rfl
    · exact (hok.1 s (List.mem_of_getElem? h)).1
theorem deedD_deeds (D : DiskD) : (deedD D).deeds ≤ D.deeds + 1 := by unfold deedD; split; exact Nat.le_succ _; exact Nat.le_refl _
theorem writeD_bounds (D : DiskD) (at_ : Int) (s : List Nat) : (writeD D at_ s).secs.length = D.secs.length ∧ (writeD D at_ s).cache.length ≤ D.cache.length + 1 ∧ (writeD D at_ s).deeds ≤ D.deeds + 1 := by
  unfold writeD
  split
  · exact ⟨rfl, Nat.le_succ _, Nat.le_succ _⟩
  · refine ⟨by rw [deedD_secs]; rfl, ?_, deedD_deeds _⟩
    rw [deedD_cache]
    show (D.cache ++ [_]).length ≤ _
    simp
theorem reads_far {B : Nat} {w w' : World} {a : Option Addr} {n : Nat} {l : List Nat} (h : Reads w a n l) (b : Below B w w') (hB : l ≠ [] → ∀ x, a = some x → x.block < B) : Reads w' a n l := by
  by_cases h0 : l = []
  · exact ⟨h.1, h.2.1, .inl h0⟩
  replace hB := hB h0
  obtain ⟨h1, h2, h3⟩ := h
  refine ⟨h1, h2, ?_⟩
  rcases h3 with h3 | ⟨g, o, he, hg, hc⟩
  · exact .inl h3
  · exact .inr ⟨g, o, he, Nat.lt_of_lt_of_le hg b.size, fun i hi => (b.cell (p := ⟨g, o + i, none⟩) (hB ⟨g, o, none⟩ he : g < B)).trans (hc i hi)⟩
theorem readsB_below {w w' : World} {a : Option Addr} {n : Nat} {l : List Bool} (h : ReadsB w a n l) (b : Below w.heap.size w w') : ReadsB w' a n l := by
  obtain ⟨h1, rfl | ⟨g, o, rfl, hg, hc⟩⟩ := h
  · exact ⟨h1, .inl rfl⟩
  · exact ⟨h1, .inr ⟨g, o, rfl, Nat.lt_of_lt_of_le hg b.size, fun i hi => (b.cell (p := ⟨g, o + i, none⟩) hg).trans (hc i hi)⟩⟩
theorem flushD_bounds (D : DiskD) : (flushD D).secs.length = D.secs.length ∧ (flushD D).cache.length ≤ D.cache.length + 1 ∧ (flushD D).deeds ≤ D.deeds + 1 := by
  unfold flushD
  split
  · exact ⟨rfl, Nat.le_succ _, Nat.le_succ _⟩
  · exact ⟨settles_len _ _, Nat.zero_le _, deedD_deeds D⟩
/-- Arm, of the document's. -/
theorem rarm_ref {B : Nat} {w : World} {D : DiskD} {v : Value} (h : RefIs B w D v) (n : Int) : Calls Try.prog 62 #[v, .int .i64 n] w fun e w' => ∃ x, e = .returned x ∧ RefIs B w' (armD D n) x ∧ Below w.heap.size w w' := by
  obtain ⟨sa, sc, qa, qc, rfl, h1, h2⟩ := h
  refine (rarm_is sa D.secs.length sc qa D.cache.length qc D n w).mono ?_
  rintro e w' ⟨rfl, b⟩
  obtain ⟨e1, e2⟩ := armI_armD D n
  exact ⟨_, rfl, ⟨sa, sc, qa, qc, by rw [e1, e2], by rw [e1]; exact h1.below b, by rw [e2]; exact h2.below b⟩, b⟩
theorem armD_deeds (D : DiskD) (n : Int) : (armD D n).deeds = D.deeds := by unfold armD; split <;> rfl
set_option maxHeartbeats 1000000 in
theorem do3_is {B : Nat} {w : World} {g gs : Nat} {cv v : Value} {D : DiskD} (hd : IsDisk B w g gs cv D) (hr : RefIs B w D v) (hdd : D.deeds < 1000000) (hc : D.cache.length < 1000000) (kd at_ : Int) (sa : Option Addr) (sn sc : Nat) (S : List Nat) (hs : Reads w sa sn S) (hsb : Bytes S) (hsn : sn ≤ maxLen) (hsB : S ≠ [] → ∀ x, sa = some x → x.block < B)
    (ka : Option Addr) (kn kc : Nat) (ks : List Bool) (hk : ReadsB w ka kn ks) (hkn : kn ≤ 9223372036854775807) (hkB : ks ≠ [] → ∀ x, ka = some x → x.block < B) (hat : at_ ≤ 9223372036854775807) :
    Calls Try.prog 12 #[.pointer (some ⟨g, 0, none⟩), v, .agg #[.int .i64 kd, .int .i64 at_, .slice sa sn sc, .slice ka kn kc]] w (DoPost kd B w g gs cv D) := by
  have hok := hd.2.2.2.1
  obtain ⟨xa, xn, xc, ya, yn, yc, dd, ai, dn, hv⟩ := ref_agg hr
  rw [hv] at hr ⊢
  have hgw : g < w.heap.size := (Array.getElem?_eq_some_iff.1 hd.1).1
  have hBw := hd.size
  go_enter Try.func12, Try.ntmps12
  obtain ⟨kb, n0, n1, n2, hsz⟩ := three_cells w #[.slice xa xn xc, .slice ya yn yc, .bool dd, .int .i64 ai, .int .i64 dn] #[.int .i64 kd, .int .i64 at_, .slice sa sn sc, .slice ka kn kc] zeroR 28 36 28
  obtain ⟨w2, hw2⟩ : ∃ x, ((w.alloc (.cells #[.slice xa xn xc, .slice ya yn yc, .bool dd, .int .i64 ai, .int .i64 dn] 28)).alloc (.cells #[.int .i64 kd, .int .i64 at_, .slice sa sn sc, .slice ka kn kc] 36)).alloc (.cells zeroR 28) = x := ⟨_, rfl⟩
  rw [hw2] at kb n0 n1 n2 hsz
  have hw2' : ((w.alloc (.cells #[.slice xa xn xc, .slice ya yn yc, .bool dd, .int .i64 ai, .int .i64 dn] 28)).alloc (.cells #[.int .i64 kd, .int .i64 at_, .slice sa sn sc, .slice ka kn kc] 36)).alloc (.cells #[.slice none 0 0, .slice none 0 0, .bool false, .int .i64 0, .int .i64 0] 28) = w2 := hw2
  obtain ⟨b0, hb0⟩ : ∃ x, w.heap.size = x := ⟨_, rfl⟩
  rw [hb0] at n0 n1 n2 hsz
  have HB0 := Lib.hid hb0
  have KB := Lib.hid kb
  have N0 := Lib.hid n0
  have N1 := Lib.hid n1
  have N2 := Lib.hid n2
  have HD := Lib.hid (hd.more kb)
  have HR := Lib.hid (hr.below kb)
  have HS := Lib.hid (hs.below kb)
  have HSW := Lib.hid hs
  have hgb : g < b0 := by omega
  have hBb : B ≤ b0 := by omega
  have u0 : w2.cell? ⟨b0 + 1, 0, none⟩ = some (.int .i64 kd) := cell_of_row n1 0
  have u1 : w2.cell? ⟨b0 + 1, 1, none⟩ = some (.int .i64 at_) := cell_of_row n1 1
  have u2 : w2.cell? ⟨b0 + 1, 2, none⟩ = some (.slice sa sn sc) := cell_of_row n1 2
  have u3 : w2.cell? ⟨b0 + 1, 3, none⟩ = some (.slice ka kn kc) := cell_of_row n1 3
  have BN : Hid ((b0 ≠ g ∧ b0 ≠ gs ∧ cv.ownBlock ≠ some b0) ∧ (b0 + 1 ≠ g ∧ b0 + 1 ≠ gs ∧ cv.ownBlock ≠ some (b0 + 1)) ∧ (b0 + 1 + 1 ≠ g ∧ b0 + 1 + 1 ≠ gs ∧ cv.ownBlock ≠ some (b0 + 1 + 1))) := Lib.hid (by
    have hgs : gs < w.heap.size := (Array.getElem?_eq_some_iff.1 hd.2.1).1
    have hcv : ∀ j, cv.ownBlock = some j → j < w.heap.size := fun j hj => (World.ownsRow.lt hd.2.2.1 j hj).2
    refine ⟨⟨by omega, by omega, fun e => ?_⟩, ⟨by omega, by omega, fun e => ?_⟩, ⟨by omega, by omega, fun e => ?_⟩⟩ <;> (have := hcv _ e; omega))
  have HOK := Lib.hid hok
  have HBB := Lib.hid (fun (W : World) (k : Below w.heap.size w W) => (k.mono hBw : Below B w W))
  clear hw2 kb n0 n1 n2 hd hr hs hok hv
  by_cases h3 : kd = 3
  · subst h3
    go_wp2_with fail
    refine (darm_is at_ HD.out hat).mono ?_
    rintro e w3 ⟨rfl, hd3, o3⟩
    have hr3 := HR.out.dkeeps HD.out (DKeeps.of_g o3)
    have k3 : Below B w w3 := (HBB.out _ KB.out).trans ((DKeeps.of_g o3).below HD.out HD.out.size)
    have KK : Hid (DKeeps g gs cv w w3) := Lib.hid ((DKeeps.of_below KB.out).trans (DKeeps.of_g o3))
    have m0 := (o3.block b0 (by omega)).trans N0.out
    have m1 := (o3.block (b0 + 1) (by omega)).trans N1.out
    have m2 := (o3.block (b0 + 1 + 1) (by omega)).trans N2.out
    have x0 : w3.cell? ⟨b0, 0, none⟩ = some (.slice xa xn xc) := cell_of_row m0 0
    have x1 : w3.cell? ⟨b0, 1, none⟩ = some (.slice ya yn yc) := cell_of_row m0 1
    have x2 : w3.cell? ⟨b0, 2, none⟩ = some (.bool dd) := cell_of_row m0 2
    have x3 : w3.cell? ⟨b0, 3, none⟩ = some (.int .i64 ai) := cell_of_row m0 3
    have x4 : w3.cell? ⟨b0, 4, none⟩ = some (.int .i64 dn) := cell_of_row m0 4
    have y1 : w3.cell? ⟨b0 + 1, 1, none⟩ = some (.int .i64 at_) := cell_of_row m1 1
    have HD3 := Lib.hid hd3
    have HR3 := Lib.hid hr3
    have K3 := Lib.hid k3
    have M2 := Lib.hid m2
    clear m0 m1 m2 hd3 hr3 k3 o3 u0 u1 u2 u3 hw2'
    go_wp2_with fail
    refine (rarm_ref HR3.out at_).mono ?_
    rintro e w4 ⟨v4, rfl, hr4, b4⟩
    obtain ⟨xa4, xn4, xc4, ya4, yn4, yc4, dd4, ai4, dn4, rfl⟩ := ref_agg hr4
    have m2 := (b4.block (b0 + 1 + 1) (Array.getElem?_eq_some_iff.1 M2.out).1).trans M2.out
    have M24 := Lib.hid m2
    have HD4 := Lib.hid (HD3.out.more b4)
    have HR4 := Lib.hid hr4
    have K4 := Lib.hid (K3.out.trans (b4.mono HD3.out.size))
    have KK4 := Lib.hid (KK.out.trans (DKeeps.of_below b4))
    have z0 := cell_of_row m2 0
    have z1 := cell_of_row m2 1
    have z2 := cell_of_row m2 2
    have z3 := cell_of_row m2 3
    have z4 := cell_of_row m2 4
    have ff := fun i => frozen_of_row w4 (b0 + 1 + 1) i _ _ m2
    clear m2 b4 hr4
    go_wp2
    refine bodyPost_ret (results_five_tmp rfl _ _ (b0 + 1 + 1) rfl (five_set _ _ _ _ _ M24.out).1) rfl ?_
    exact do_fin HD4.out HR4.out K4.out M24.out (by omega) KK4.out (by omega) (by rw [(armI_armD D at_).1]) (by rw [(armI_armD D at_).2]; omega) (by rw [armD_deeds]; omega) (calm_arm D at_) (.inl rfl)
  by_cases h2 : kd = 2
  · subst h2
    go_wp2_with fail
    refine (dflush_is HD.out hdd).mono ?_
    rintro e w3 ⟨rfl, ⟨cv3, hd3, hcv3⟩, KX⟩
    have LIE := Lib.hid (lies_same (w := w) hcv3)
    clear hcv3
    have m0 := (KX.block b0 (Array.getElem?_eq_some_iff.1 N0.out).1 BN.out.1.1 BN.out.1.2.1 BN.out.1.2.2).trans N0.out
    have m1 := (KX.block (b0 + 1) (Array.getElem?_eq_some_iff.1 N1.out).1 BN.out.2.1.1 BN.out.2.1.2.1 BN.out.2.1.2.2).trans N1.out
    have m2 := (KX.block (b0 + 1 + 1) (Array.getElem?_eq_some_iff.1 N2.out).1 BN.out.2.2.1 BN.out.2.2.2.1 BN.out.2.2.2.2).trans N2.out
    have x0 : w3.cell? ⟨b0, 0, none⟩ = some (.slice xa xn xc) := cell_of_row m0 0
    have x1 : w3.cell? ⟨b0, 1, none⟩ = some (.slice ya yn yc) := cell_of_row m0 1
    have x2 : w3.cell? ⟨b0, 2, none⟩ = some (.bool dd) := cell_of_row m0 2
    have x3 : w3.cell? ⟨b0, 3, none⟩ = some (.int .i64 ai) := cell_of_row m0 3
    have x4 : w3.cell? ⟨b0, 4, none⟩ = some (.int .i64 dn) := cell_of_row m0 4
    have y1 : w3.cell? ⟨b0 + 1, 1, none⟩ = some (.int .i64 at_) := cell_of_row m1 1
    have y2 : w3.cell? ⟨b0 + 1, 2, none⟩ = some (.slice sa sn sc) := cell_of_row m1 2
    have y3 : w3.cell? ⟨b0 + 1, 3, none⟩ = some (.slice ka kn kc) := cell_of_row m1 3
    have HD3 := Lib.hid hd3
    have HR3 := Lib.hid (HR.out.dkeeps HD.out KX)
    have K3 : Hid (Below B w w3) := Lib.hid ((HBB.out _ KB.out).trans (KX.below HD.out HD.out.size))
    have KK : Hid (DKeeps g gs cv w w3) := Lib.hid ((DKeeps.of_below KB.out).trans KX)
    have M2 := Lib.hid m2
    clear m0 m1 m2 hd3 KX u0 u1 u2 u3 hw2'
    obtain ⟨de, hde⟩ : ∃ x, deedE D = x := ⟨_, rfl⟩
    have hself : (de == de) = true := by simp
    have HDE := Lib.hid hde
    rw [hde]
    clear hde
    go_wp2_with fail
    refine (rflush_is HR3.out HD3.out.size HOK.out hdd).mono ?_
    rintro e w4 ⟨v4, rfl, hr4, b4⟩
    obtain ⟨xa4, xn4, xc4, ya4, yn4, yc4, dd4, ai4, dn4, rfl⟩ := ref_agg hr4
    rw [HDE.out]
    obtain ⟨g5, hg5⟩ : ∃ x, w4.heap.size = x := ⟨_, rfl⟩
    have n5 := heap_alloc_new w4 (.cells #[.slice xa4 xn4 xc4, .slice ya4 yn4 yc4, .bool dd4, .int .i64 ai4, .int .i64 dn4] 28)
    have b5 := below_box w4 (.cells #[.slice xa4 xn4 xc4, .slice ya4 yn4 yc4, .bool dd4, .int .i64 ai4, .int .i64 dn4] 28)
    obtain ⟨w5, hw5⟩ : ∃ x, w4.alloc (.cells #[.slice xa4 xn4 xc4, .slice ya4 yn4 yc4, .bool dd4, .int .i64 ai4, .int .i64 dn4] 28) = x := ⟨_, rfl⟩
    rw [hw5] at n5 b5
    rw [hg5] at n5
    have b45 := below_next b4 b5
    have m2 := (b45.block (b0 + 1 + 1) (Array.getElem?_eq_some_iff.1 M2.out).1).trans M2.out
    have M24 := Lib.hid m2
    have HD4 := Lib.hid (HD3.out.more b45)
    have HR4 := Lib.hid (hr4.below b5)
    have K4 := Lib.hid (K3.out.trans (b45.mono HD3.out.size))
    have KK4 := Lib.hid (KK.out.trans (DKeeps.of_below b45))
    have p0 : w5.cell? ⟨g5, 0, none⟩ = some (.slice xa4 xn4 xc4) := cell_of_row n5 0
    have p1 : w5.cell? ⟨g5, 1, none⟩ = some (.slice ya4 yn4 yc4) := cell_of_row n5 1
    have p2 : w5.cell? ⟨g5, 2, none⟩ = some (.bool dd4) := cell_of_row n5 2
    have p3 : w5.cell? ⟨g5, 3, none⟩ = some (.int .i64 ai4) := cell_of_row n5 3
    have p4 : w5.cell? ⟨g5, 4, none⟩ = some (.int .i64 dn4) := cell_of_row n5 4
    have z0 := cell_of_row m2 0
    have z1 := cell_of_row m2 1
    have z2 := cell_of_row m2 2
    have z3 := cell_of_row m2 3
    have z4 := cell_of_row m2 4
    have ff := fun i => frozen_of_row w5 (b0 + 1 + 1) i _ _ m2
    clear m2 b4 hr4 x0 x1 x2 x3 x4 y1 y2 y3 n5 b5 b45
    go_wp2
    refine bodyPost_ret (results_five_tmp rfl _ _ (b0 + 1 + 1) rfl (five_set _ _ _ _ _ M24.out).1) rfl ?_
    exact do_fin HD4.out HR4.out K4.out M24.out (by omega) KK4.out (by omega) (flushD_bounds D).1 (flushD_bounds D).2.1 (flushD_bounds D).2.2 (calm_flush _ D) LIE.out
  by_cases h4 : kd = 4
  · subst h4
    go_wp2_with fail
    have hka : ks ≠ [] → ∀ x, ka = some x → x.block ≠ g ∧ x.block ≠ gs ∧ cv.ownBlock ≠ some x.block := fun hne x hx => by
      have h9 := hkB hne x hx
      obtain ⟨_, _, k3, _, k5, k6⟩ := HD.out
      exact ⟨by omega, by omega, fun e => by have := (World.ownsRow.lt k3 _ e).1; omega⟩
    have hkk : ReadsB w2 ka kn ks := readsB_below hk KB.out
    refine (dcrash_is ka kn kc ks HD.out hkk hkn hka).mono ?_
    rintro e w3 ⟨rfl, hd3, KX⟩
    have KX0 := KX
    have m0 := (KX.block b0 (Array.getElem?_eq_some_iff.1 N0.out).1 BN.out.1.1 BN.out.1.2.1 BN.out.1.2.2).trans N0.out
    have m1 := (KX.block (b0 + 1) (Array.getElem?_eq_some_iff.1 N1.out).1 BN.out.2.1.1 BN.out.2.1.2.1 BN.out.2.1.2.2).trans N1.out
    have m2 := (KX.block (b0 + 1 + 1) (Array.getElem?_eq_some_iff.1 N2.out).1 BN.out.2.2.1 BN.out.2.2.2.1 BN.out.2.2.2.2).trans N2.out
    have x0 : w3.cell? ⟨b0, 0, none⟩ = some (.slice xa xn xc) := cell_of_row m0 0
    have x1 : w3.cell? ⟨b0, 1, none⟩ = some (.slice ya yn yc) := cell_of_row m0 1
    have x2 : w3.cell? ⟨b0, 2, none⟩ = some (.bool dd) := cell_of_row m0 2
    have x3 : w3.cell? ⟨b0, 3, none⟩ = some (.int .i64 ai) := cell_of_row m0 3
    have x4 : w3.cell? ⟨b0, 4, none⟩ = some (.int .i64 dn) := cell_of_row m0 4
    have y1 : w3.cell? ⟨b0 + 1, 1, none⟩ = some (.int .i64 at_) := cell_of_row m1 1
    have y2 : w3.cell? ⟨b0 + 1, 2, none⟩ = some (.slice sa sn sc) := cell_of_row m1 2
    have y3 : w3.cell? ⟨b0 + 1, 3, none⟩ = some (.slice ka kn kc) := cell_of_row m1 3
    have HD3 := Lib.hid hd3
    have HR3 := Lib.hid (HR.out.dkeeps HD.out KX)
    have K3 : Hid (Below B w w3) := Lib.hid ((HBB.out _ KB.out).trans (KX.below HD.out HD.out.size))
    have KK : Hid (DKeeps g gs cv w w3) := Lib.hid ((DKeeps.of_below KB.out).trans KX)
    have M2 := Lib.hid m2
    clear m0 m1 m2 hd3 KX u0 u1 u2 u3 hw2'
    have hk3 := hkk.keeps KX0 hka
    have HK3 := Lib.hid hk3
    clear hk3 KX0 hkk hka
    go_wp2_with fail
    refine (rcrash_is HR3.out HD3.out.size HOK.out ka kn kc ks HK3.out hkn).mono ?_
    rintro e w4 ⟨v4, rfl, hr4, b4⟩
    obtain ⟨xa4, xn4, xc4, ya4, yn4, yc4, dd4, ai4, dn4, rfl⟩ := ref_agg hr4
    have m2 := (b4.block (b0 + 1 + 1) (Array.getElem?_eq_some_iff.1 M2.out).1).trans M2.out
    have M24 := Lib.hid m2
    have HD4 := Lib.hid (HD3.out.more b4)
    have HR4 := Lib.hid hr4
    have K4 := Lib.hid (K3.out.trans (b4.mono HD3.out.size))
    have KK4 := Lib.hid (KK.out.trans (DKeeps.of_below b4))
    have z0 := cell_of_row m2 0
    have z1 := cell_of_row m2 1
    have z2 := cell_of_row m2 2
    have z3 := cell_of_row m2 3
    have z4 := cell_of_row m2 4
    have ff := fun i => frozen_of_row w4 (b0 + 1 + 1) i _ _ m2
    clear m2 b4 hr4 x0 x1 x2 x3 x4 y1 y2 y3
    go_wp2
    refine bodyPost_ret (results_five_tmp rfl _ _ (b0 + 1 + 1) rfl (five_set _ _ _ _ _ M24.out).1) rfl ?_
    exact do_fin HD4.out HR4.out K4.out M24.out (by omega) KK4.out (by omega) (by unfold crashD; exact settles_len _ _) (by unfold crashD; exact Nat.zero_le _) (by unfold crashD; exact Nat.le_succ _) (calm_crash _ D _) (.inr (fun k hk => by cases hk))
  by_cases h1 : kd = 1
  · subst h1
    have HS8 := Lib.hid (readS_len HOK.out at_)
    have hrd := dread_is HD.out at_
    have hrr := fun (W : World) (hW : Below w2.heap.size w2 W) => rread_is (HR.out.below hW) HOK.out at_
    obtain ⟨X, hX⟩ : ∃ X, readS D at_ = X := ⟨_, rfl⟩
    obtain ⟨ri, hri⟩ : ∃ x, refI D at_ = x := ⟨_, rfl⟩
    simp only [hX, hri] at hrd hrr
    rw [hX] at HS8
    have HRD := Lib.hid hrd
    have HRR := Lib.hid hrr
    have heq := run_eql_sector X X HS8.out HS8.out
    rw [decide_eq_true rfl] at heq
    have e6 : (ri == ri) = true := by simp
    have hzs := zero_sector
    have hzf := zero_full
    clear hrd hrr hX hri
    go_wp2_with fail
    refine HRD.out.mono ?_
    rintro e w3 ⟨rfl, b3⟩
    have nz := heap_alloc_new w3 (.cells (cells noughts) 106)
    have nS := heap_alloc_new w3 (.cells (cells X) 106)
    have eS := World.setRow_alloc_new w3 (cells noughts) (cells X) 106
    have bS := below_box w3 (.cells (cells X) 106)
    obtain ⟨w4, hw4⟩ : ∃ x, w3.alloc (.cells (cells X) 106) = x := ⟨_, rfl⟩
    rw [hw4] at eS bS nS
    obtain ⟨g3, hg3⟩ : ∃ x, w3.heap.size = x := ⟨_, rfl⟩
    rw [hg3] at nz nS eS
    have k4 := below_next b3 bS
    have KX := Lib.hid k4
    have m0 := (k4.block b0 (Array.getElem?_eq_some_iff.1 N0.out).1).trans N0.out
    have m1 := (k4.block (b0 + 1) (Array.getElem?_eq_some_iff.1 N1.out).1).trans N1.out
    have y1 : w4.cell? ⟨b0 + 1, 1, none⟩ = some (.int .i64 at_) := cell_of_row m1 1
    have x0 : w4.cell? ⟨b0, 0, none⟩ = some (.slice xa xn xc) := cell_of_row m0 0
    have x1 : w4.cell? ⟨b0, 1, none⟩ = some (.slice ya yn yc) := cell_of_row m0 1
    have x2 : w4.cell? ⟨b0, 2, none⟩ = some (.bool dd) := cell_of_row m0 2
    have x3 : w4.cell? ⟨b0, 3, none⟩ = some (.int .i64 ai) := cell_of_row m0 3
    have x4 : w4.cell? ⟨b0, 4, none⟩ = some (.int .i64 dn) := cell_of_row m0 4
    have M0 := Lib.hid m0
    have NS := Lib.hid nS
    clear m0 m1 nS bS b3 k4 hw4 u0 u1 u2 u3 hw2'
    go_wp2_with (first | (refine wpList_store_sector rfl _ _ rfl g3 X rfl rfl HS8.out _ _ nz rfl ?_; rw [eS]) | fail)
    refine (HRR.out w4 KX.out).mono ?_
    rintro e w5 ⟨rfl, b5⟩
    have nz5 := heap_alloc_new w5 (.cells (cells noughts) 39)
    have nS5 := heap_alloc_new w5 (.cells (cells X) 39)
    have eS5 := World.setRow_alloc_new w5 (cells noughts) (cells X) 39
    have bS5 := below_box w5 (.cells (cells X) 39)
    obtain ⟨w6, hw6⟩ : ∃ x, w5.alloc (.cells (cells X) 39) = x := ⟨_, rfl⟩
    rw [hw6] at eS5 bS5 nS5
    obtain ⟨g5, hg5⟩ : ∃ x, w5.heap.size = x := ⟨_, rfl⟩
    rw [hg5] at nz5 nS5 eS5
    have b46 := below_next b5 bS5
    have k6 := below_next KX.out b46
    have n8 := (b46.block g3 (Array.getElem?_eq_some_iff.1 NS.out).1).trans NS.out
    have L8 := Lib.hid (block_cells HS8.out n8)
    have L9 := Lib.hid (block_cells HS8.out nS5)
    have m0 := (b46.block b0 (Array.getElem?_eq_some_iff.1 M0.out).1).trans M0.out
    have m2 := (k6.block (b0 + 1 + 1) (Array.getElem?_eq_some_iff.1 N2.out).1).trans N2.out
    have HD6 := Lib.hid (HD.out.more k6)
    have HR6 := Lib.hid (HR.out.below k6)
    have K6 := Lib.hid (HBB.out _ (below_next KB.out k6))
    have KK6 : Hid (DKeeps g gs cv w w6) := Lib.hid (DKeeps.of_below (below_next KB.out k6))
    clear x0 x1 x2 x3 x4 y1 nz eS
    have x0 : w6.cell? ⟨b0, 0, none⟩ = some (.slice xa xn xc) := cell_of_row m0 0
    have x1 : w6.cell? ⟨b0, 1, none⟩ = some (.slice ya yn yc) := cell_of_row m0 1
    have x2 : w6.cell? ⟨b0, 2, none⟩ = some (.bool dd) := cell_of_row m0 2
    have x3 : w6.cell? ⟨b0, 3, none⟩ = some (.int .i64 ai) := cell_of_row m0 3
    have x4 : w6.cell? ⟨b0, 4, none⟩ = some (.int .i64 dn) := cell_of_row m0 4
    have z0 := cell_of_row m2 0
    have z1 := cell_of_row m2 1
    have z2 := cell_of_row m2 2
    have z3 := cell_of_row m2 3
    have z4 := cell_of_row m2 4
    have ff := fun i => frozen_of_row w6 (b0 + 1 + 1) i _ _ m2
    have M26 := Lib.hid m2
    have Q0 := Lib.hid m0
    have Q3 := Lib.hid n8
    have Q5 := Lib.hid nS5
    clear m0 m2 n8 b5 b46 k6 bS5 nS5 hw6 hzs
    go_wp2_with (first
      | (refine wpList_store_full rfl _ _ rfl g5 X rfl rfl HS8.out _ _ nz5 rfl ?_; rw [eS5])
      | (refine wpList_load_sector rfl _ rfl g3 0 X rfl HS8.out L8.out ?_)
      | (refine wpList_load_full rfl _ rfl g5 0 X rfl HS8.out L9.out ?_)
      | fail)
    have SX : Hid (∀ W : World, W.heap[b0]? = w6.heap[b0]? → W.heap[g3]? = w6.heap[g3]? → W.heap[g5]? = w6.heap[g5]? → (W.cell? ⟨b0, 0, none⟩ = some (.slice xa xn xc) ∧ W.cell? ⟨b0, 1, none⟩ = some (.slice ya yn yc) ∧ W.cell? ⟨b0, 2, none⟩ = some (.bool dd) ∧ W.cell? ⟨b0, 3, none⟩ = some (.int .i64 ai) ∧ W.cell? ⟨b0, 4, none⟩ = some (.int .i64 dn)) ∧ W.rangeAt g3 0 (X.map byteV) ∧ W.rangeAt g5 0 (X.map byteV)) := Lib.hid (fun W e0 e3 e5 => by
      have k0 := e0.trans Q0.out
      exact ⟨⟨cell_of_row k0 0, cell_of_row k0 1, cell_of_row k0 2, cell_of_row k0 3, cell_of_row k0 4⟩, range_of (e3.trans Q3.out), range_of (e5.trans Q5.out)⟩)
    have lX : (Try.prog.info? 106).map (·.size) = some (X.map byteV).length := by rw [List.length_map, HS8.out]; exact size_sector
    have lY : (Try.prog.info? 39).map (·.size) = some (X.map byteV).length := by rw [List.length_map, HS8.out]; exact size_arr128
    have HD7 : Hid (IsDisk B w6.drew g gs cv D) := Lib.hid HD6.out
    have HR7 : Hid (RefIs B w6.drew D (.agg #[.slice xa xn xc, .slice ya yn yc, .bool dd, .int .i64 ai, .int .i64 dn])) := Lib.hid HR6.out
    have K7 : Hid (Below B w w6.drew) := Lib.hid K6.out.drew
    have KK7 : Hid (DKeeps g gs cv w w6.drew) := Lib.hid ⟨KK6.out.os, KK6.out.tape, KK6.out.output, KK6.out.size, KK6.out.block⟩
    have M27 : Hid (w6.drew.heap[b0 + 1 + 1]? = some (.cells zeroR 28 (0, 0))) := Lib.hid M26.out
    have SX7 : Hid (∀ W : World, W.heap[b0]? = w6.drew.heap[b0]? → W.heap[g3]? = w6.drew.heap[g3]? → W.heap[g5]? = w6.drew.heap[g5]? → (W.cell? ⟨b0, 0, none⟩ = some (.slice xa xn xc) ∧ W.cell? ⟨b0, 1, none⟩ = some (.slice ya yn yc) ∧ W.cell? ⟨b0, 2, none⟩ = some (.bool dd) ∧ W.cell? ⟨b0, 3, none⟩ = some (.int .i64 ai) ∧ W.cell? ⟨b0, 4, none⟩ = some (.int .i64 dn)) ∧ W.rangeAt g3 0 (X.map byteV) ∧ W.rangeAt g5 0 (X.map byteV)) := Lib.hid SX.out
    have G3L : Hid (g3 < w6.drew.heap.size) := Lib.hid (Array.getElem?_eq_some_iff.1 Q3.out).1
    have G5L : Hid (g5 < w6.drew.heap.size) := Lib.hid (Array.getElem?_eq_some_iff.1 Q5.out).1
    have NE3 : g3 ≠ b0 + 1 + 1 := nblock Q3.out M26.out (by decide)
    have NE5 : g5 ≠ b0 + 1 + 1 := nblock Q5.out M26.out (by decide)
    clear x0 x1 x2 x3 x4 z0 z1 z2 z3 z4 ff Q0 Q3 Q5 HD6 HR6 K6 M26
    refine wp_region_held_drew (S := fun W => (W.cell? ⟨b0, 0, none⟩ = some (.slice xa xn xc) ∧ W.cell? ⟨b0, 1, none⟩ = some (.slice ya yn yc) ∧ W.cell? ⟨b0, 2, none⟩ = some (.bool dd) ∧ W.cell? ⟨b0, 3, none⟩ = some (.int .i64 ai) ∧ W.cell? ⟨b0, 4, none⟩ = some (.int .i64 dn)) ∧ W.rangeAt g3 0 (X.map byteV) ∧ W.rangeAt g5 0 (X.map byteV)) (by kernel_rfl) (SX7.out w6.drew rfl rfl rfl) (fun hHeld => ?_)
    clear SX L8 L9
    generalize w6.drew = w7 at *
    have z0 := cell_of_row M27.out 0
    have z1 := cell_of_row M27.out 1
    have z2 := cell_of_row M27.out 2
    have z3 := cell_of_row M27.out 3
    have z4 := cell_of_row M27.out 4
    have ff := fun i => frozen_of_row w7 (b0 + 1 + 1) i _ _ M27.out
    refine wpAnyH_take (i := 0) (v := .agg #[.slice xa xn xc, .slice ya yn yc, .bool dd, .int .i64 ai, .int .i64 dn]) rfl (by kernel_rfl) (by kernel_rfl) (by kernel_rfl) (fun _ _ _ h => h) (Or.inl ⟨by rfl, by intro W hSw; obtain ⟨⟨q0, q1, q2, q3, q4⟩, -, -⟩ := hSw; go_simp⟩) (by assumption) ?_
    try simp only [List.getElem_toArray, List.getElem_cons_zero, List.getElem_cons_succ, Act.put, List.setIfInBounds_toArray, List.set_cons_zero, List.set_cons_succ]
    refine wpAnyH_take (i := 1) (v := .agg (cells X)) rfl (by kernel_rfl) (by kernel_rfl) (by kernel_rfl) (fun _ _ _ h => h) (yieldsIf_load_mid (by rfl) 106 _ rfl g3 0 (by rfl) (X.map byteV) _ (fun W hW => hW.2.1) row_sector rfl lX) (by assumption) ?_
    try simp only [List.getElem_toArray, List.getElem_cons_zero, List.getElem_cons_succ, Act.put, List.setIfInBounds_toArray, List.set_cons_zero, List.set_cons_succ]
    refine wpAnyH_take (i := 2) (v := .agg (cells X)) rfl (by kernel_rfl) (by kernel_rfl) (by kernel_rfl) (fun _ _ _ h => h) (yieldsIf_load_mid (by rfl) 39 _ rfl g5 0 (by rfl) (X.map byteV) _ (fun W hW => hW.2.2) row_full rfl lY) (by assumption) ?_
    try simp only [List.getElem_toArray, List.getElem_cons_zero, List.getElem_cons_succ, Act.put, List.setIfInBounds_toArray, List.set_cons_zero, List.set_cons_succ]
    refine wpAnyH_take (i := 3) (v := .bool true) rfl (by kernel_rfl) (by kernel_rfl) (by kernel_rfl) (fun _ _ _ h => h) (Or.inl ⟨by rfl, by intro W hSw; clear hSw; go_simp⟩) (by assumption) ?_
    try simp only [List.getElem_toArray, List.getElem_cons_zero, List.getElem_cons_succ, Act.put, List.setIfInBounds_toArray, List.set_cons_zero, List.set_cons_succ]
    refine wpAnyH_take (i := 4) (v := .bool true) rfl (by kernel_rfl) (by kernel_rfl) (by kernel_rfl) (fun _ _ _ h => h) (Or.inl ⟨by rfl, by intro W hSw; clear hSw; go_simp⟩) (by assumption) ?_
    try simp only [List.getElem_toArray, List.getElem_cons_zero, List.getElem_cons_succ, Act.put, List.setIfInBounds_toArray, List.set_cons_zero, List.set_cons_succ]
    refine wpAnyH_take (i := 5) (v := .int .i64 ri) rfl (by kernel_rfl) (by kernel_rfl) (by kernel_rfl) (fun _ _ _ h => h) (Or.inl ⟨by rfl, by intro W hSw; clear hSw; go_simp⟩) (by assumption) ?_
    try simp only [List.getElem_toArray, List.getElem_cons_zero, List.getElem_cons_succ, Act.put, List.setIfInBounds_toArray, List.set_cons_zero, List.set_cons_succ]
    refine wpAnyH_take (i := 6) (v := .int .i64 ri) rfl (by kernel_rfl) (by kernel_rfl) (by kernel_rfl) (fun _ _ _ h => h) (Or.inl ⟨by rfl, by intro W hSw; clear hSw; go_simp⟩) (by assumption) ?_
    try simp only [List.getElem_toArray, List.getElem_cons_zero, List.getElem_cons_succ, Act.put, List.setIfInBounds_toArray, List.set_cons_zero, List.set_cons_succ]
    refine wpAnyH_take (i := 7) (v := .bool true) rfl (by kernel_rfl) (by kernel_rfl) (by kernel_rfl) (fun _ _ _ h => h) (Or.inl ⟨by rfl, by intro W hSw; clear hSw; go_simp⟩) (by assumption) ?_
    try simp only [List.getElem_toArray, List.getElem_cons_zero, List.getElem_cons_succ, Act.put, List.setIfInBounds_toArray, List.set_cons_zero, List.set_cons_succ]
    refine wpAnyH_take (i := 8) (v := .bool true) rfl (by kernel_rfl) (by kernel_rfl) (by kernel_rfl) (fun _ _ _ h => h) (Or.inl ⟨by rfl, by intro W hSw; clear hSw; go_simp⟩) (by assumption) ?_
    try simp only [List.getElem_toArray, List.getElem_cons_zero, List.getElem_cons_succ, Act.put, List.setIfInBounds_toArray, List.set_cons_zero, List.set_cons_succ]
    refine wpAnyH_ready (rs := [9]) (by kernel_rfl) (by simp) ?_
    refine AllReadyH.cons rfl (fun K hK => ?_) AllReadyH.nil
    have G7 := Lib.hid (five_set (.slice xa xn xc) (.slice ya yn yc) (.bool dd) (.int .i64 ai) (.int .i64 dn) M27.out).2
    go_simp
    refine hK.out _ _ (SX7.out _ (G7.out.block b0 (by have := K7.out.size; have := HB0.out; have := (Array.getElem?_eq_some_iff.1 M27.out).1; omega) (by intro e; have : b0 = b0 + 1 + 1 := Option.some.inj e; omega)) (G7.out.block g3 G3L.out (by intro e; exact NE3 (Option.some.inj e))) (G7.out.block g5 G5L.out (by intro e; exact NE5 (Option.some.inj e)))) (fun hHeld2 => ?_)
    clear hK K
    try simp only [List.getElem_toArray, List.getElem_cons_zero, List.getElem_cons_succ, Act.put, List.setIfInBounds_toArray, List.set_cons_zero, List.set_cons_succ]
    refine wpAnyH_take (i := 10) (v := .bool true) rfl (by kernel_rfl) (by kernel_rfl) (by kernel_rfl) (fun _ _ _ h => h) (Or.inl ⟨by rfl, by intro W hSw; clear hSw; go_simp⟩) (by assumption) ?_
    try simp only [List.getElem_toArray, List.getElem_cons_zero, List.getElem_cons_succ, Act.put, List.setIfInBounds_toArray, List.set_cons_zero, List.set_cons_succ]
    refine wpAnyH_done (by kernel_rfl) ?_ _
    clear hHeld hHeld2
    go_wp2
    refine bodyPost_ret (results_five_tmp rfl _ _ (b0 + 1 + 1) rfl (five_set _ _ _ _ _ M27.out).1) rfl ?_
    exact do_fin HD7.out HR7.out K7.out M27.out (by omega) KK7.out (by omega) rfl (by omega) (by omega) (calm_same _ D) (.inl rfl)
  by_cases h0 : kd = 0
  · subst h0
    have HF8 := Lib.hid (fullL_length S)
    have HFB := Lib.hid (fullL_bytes hsb)
    have HFU := Lib.hid (fun (W : World) (hW : Reads W sa sn S) => full_any sa sn sc S W hW hsn)
    obtain ⟨X, hX⟩ : ∃ X, fullL S = X := ⟨_, rfl⟩
    rw [hX] at HF8 HFB HFU
    clear hX
    have SX : Hid (∀ W : World, W.heap[b0 + 1]? = w2.heap[b0 + 1]? → (W.cell? ⟨b0 + 1, 1, none⟩ = some (.int .i64 at_) ∧ W.cell? ⟨b0 + 1, 2, none⟩ = some (.slice sa sn sc))) := Lib.hid (fun W e0 => by
      have k0 := e0.trans N1.out
      exact ⟨cell_of_row k0 1, cell_of_row k0 2⟩)
    go_wp2_with fail
    refine wp_region_held_drew (S := fun W => (W.cell? ⟨b0 + 1, 1, none⟩ = some (.int .i64 at_) ∧ W.cell? ⟨b0 + 1, 2, none⟩ = some (.slice sa sn sc))) (by kernel_rfl) (SX.out w2.drew rfl) (fun hHeld => ?_)
    refine wpAnyH_take (i := 0) (v := .pointer (some ⟨g, 0, none⟩)) rfl (by kernel_rfl) (by kernel_rfl) (by kernel_rfl) (fun _ _ _ h => h) (Or.inl ⟨by rfl, by intro W hSw; clear hSw; go_simp⟩) (by assumption) ?_
    try simp only [List.getElem_toArray, List.getElem_cons_zero, List.getElem_cons_succ, Act.put, List.setIfInBounds_toArray, List.set_cons_zero, List.set_cons_succ]
    refine wpAnyH_take (i := 1) (v := .pointer (some ⟨b0 + 1, 1, none⟩)) rfl (by kernel_rfl) (by kernel_rfl) (by kernel_rfl) (fun _ _ _ h => h) (Or.inl ⟨by rfl, by intro W hSw; clear hSw; go_simp⟩) (by assumption) ?_
    try simp only [List.getElem_toArray, List.getElem_cons_zero, List.getElem_cons_succ, Act.put, List.setIfInBounds_toArray, List.set_cons_zero, List.set_cons_succ]
    refine wpAnyH_take (i := 2) (v := .int .i64 at_) rfl (by kernel_rfl) (by kernel_rfl) (by kernel_rfl) (fun _ _ _ h => h) (Or.inl ⟨by rfl, by intro W hSw; obtain ⟨q0, q1⟩ := hSw; go_simp⟩) (by assumption) ?_
    try simp only [List.getElem_toArray, List.getElem_cons_zero, List.getElem_cons_succ, Act.put, List.setIfInBounds_toArray, List.set_cons_zero, List.set_cons_succ]
    refine wpAnyH_take (i := 3) (v := .pointer (some ⟨b0 + 1, 2, none⟩)) rfl (by kernel_rfl) (by kernel_rfl) (by kernel_rfl) (fun _ _ _ h => h) (Or.inl ⟨by rfl, by intro W hSw; clear hSw; go_simp⟩) (by assumption) ?_
    try simp only [List.getElem_toArray, List.getElem_cons_zero, List.getElem_cons_succ, Act.put, List.setIfInBounds_toArray, List.set_cons_zero, List.set_cons_succ]
    refine wpAnyH_take (i := 4) (v := .slice sa sn sc) rfl (by kernel_rfl) (by kernel_rfl) (by kernel_rfl) (fun _ _ _ h => h) (Or.inl ⟨by rfl, by intro W hSw; obtain ⟨q0, q1⟩ := hSw; go_simp⟩) (by assumption) ?_
    try simp only [List.getElem_toArray, List.getElem_cons_zero, List.getElem_cons_succ, Act.put, List.setIfInBounds_toArray, List.set_cons_zero, List.set_cons_succ]
    refine wpAnyH_ready (rs := [5]) (by kernel_rfl) (by simp) ?_
    refine AllReadyH.cons rfl (fun K hK => ?_) AllReadyH.nil
    have b2d : Below w2.heap.size w2 w2.drew := (Below.refl _ _).drew
    go_simp
    refine (HFU.out w2.drew (HS.out.below b2d)).mono ?_
    rintro e w3 ⟨rfl, b3⟩
    have b23 : Below w2.heap.size w2 w3 := below_next b2d b3
    have hd3 := HD.out.more b23
    have hS3 := SX.out w3 (b23.block (b0 + 1) (Array.getElem?_eq_some_iff.1 N1.out).1)
    dsimp only
    refine hK.out _ _ hS3 (fun hHeld3 => ?_)
    clear hK K b3 b2d hHeld
    try simp only [List.getElem_toArray, List.getElem_cons_zero, List.getElem_cons_succ, Act.put, List.setIfInBounds_toArray, List.set_cons_zero, List.set_cons_succ]
    refine wpAnyH_ready (rs := [6]) (by kernel_rfl) (by simp) ?_
    refine AllReadyH.cons rfl (fun K hK => ?_) AllReadyH.nil
    go_simp
    refine (dwrite_lies hd3 hdd hc at_ X HF8.out HFB.out).mono ?_
    rintro e w4 ⟨rfl, ⟨cv4, hd4, lie4⟩, KX⟩
    have LIE := Lib.hid (lie4.mono (Nat.le_trans (HBB.out _ KB.out).size b23.size))
    clear lie4
    have KX2 : DKeeps g gs cv w2 w4 := (DKeeps.of_below b23).trans KX
    have m0 := (KX2.block b0 (Array.getElem?_eq_some_iff.1 N0.out).1 BN.out.1.1 BN.out.1.2.1 BN.out.1.2.2).trans N0.out
    have m1 := (KX2.block (b0 + 1) (Array.getElem?_eq_some_iff.1 N1.out).1 BN.out.2.1.1 BN.out.2.1.2.1 BN.out.2.1.2.2).trans N1.out
    have m2 := (KX2.block (b0 + 1 + 1) (Array.getElem?_eq_some_iff.1 N2.out).1 BN.out.2.2.1 BN.out.2.2.2.1 BN.out.2.2.2.2).trans N2.out
    have hS4 := SX.out w4 (m1.trans N1.out.symm)
    have HD4 := Lib.hid hd4
    have HR4 := Lib.hid (HR.out.dkeeps HD.out KX2)
    have K4 : Hid (Below B w w4) := Lib.hid ((HBB.out _ KB.out).trans (KX2.below HD.out HD.out.size))
    have KK : Hid (DKeeps g gs cv w w4) := Lib.hid ((DKeeps.of_below KB.out).trans KX2)
    have M0 := Lib.hid m0
    have M1 := Lib.hid m1
    have M2 := Lib.hid m2
    have HRS : Hid (Reads w4 sa sn S) := Lib.hid (reads_far HSW.out K4.out hsB)
    obtain ⟨we, hwe⟩ : ∃ x, writeE D at_ = x := ⟨_, rfl⟩
    have HWE := Lib.hid hwe
    rw [hwe]
    dsimp only
    refine hK.out _ _ hS4 (fun hHeld4 => ?_)
    clear hK K hHeld3 hS3 hd3 b23 KX KX2 m0 m1 m2 hwe hd4
    try simp only [List.getElem_toArray, List.getElem_cons_zero, List.getElem_cons_succ, Act.put, List.setIfInBounds_toArray, List.set_cons_zero, List.set_cons_succ]
    refine wpAnyH_take (i := 7) (v := .int .i64 we) rfl (by kernel_rfl) (by kernel_rfl) (by kernel_rfl) (fun _ _ _ h => h) (Or.inl ⟨by rfl, by intro W hSw; clear hSw; go_simp⟩) (by assumption) ?_
    try simp only [List.getElem_toArray, List.getElem_cons_zero, List.getElem_cons_succ, Act.put, List.setIfInBounds_toArray, List.set_cons_zero, List.set_cons_succ]
    refine wpAnyH_done (by kernel_rfl) ?_ _
    clear hHeld4 hS4 u0 u1 u2 u3 hw2'
    go_wp2_with fail
    have SX4 : Hid (∀ W : World, W.heap[b0]? = w4.heap[b0]? → W.heap[b0 + 1]? = w4.heap[b0 + 1]? → ((W.cell? ⟨b0, 0, none⟩ = some (.slice xa xn xc) ∧ W.cell? ⟨b0, 1, none⟩ = some (.slice ya yn yc) ∧ W.cell? ⟨b0, 2, none⟩ = some (.bool dd) ∧ W.cell? ⟨b0, 3, none⟩ = some (.int .i64 ai) ∧ W.cell? ⟨b0, 4, none⟩ = some (.int .i64 dn)) ∧ W.cell? ⟨b0 + 1, 1, none⟩ = some (.int .i64 at_) ∧ W.cell? ⟨b0 + 1, 2, none⟩ = some (.slice sa sn sc))) := Lib.hid (fun W e0 e1 => by
      have k0 := e0.trans M0.out
      have k1 := e1.trans M1.out
      exact ⟨⟨cell_of_row k0 0, cell_of_row k0 1, cell_of_row k0 2, cell_of_row k0 3, cell_of_row k0 4⟩, cell_of_row k1 1, cell_of_row k1 2⟩)
    refine wp_region_held_drew (S := fun W => ((W.cell? ⟨b0, 0, none⟩ = some (.slice xa xn xc) ∧ W.cell? ⟨b0, 1, none⟩ = some (.slice ya yn yc) ∧ W.cell? ⟨b0, 2, none⟩ = some (.bool dd) ∧ W.cell? ⟨b0, 3, none⟩ = some (.int .i64 ai) ∧ W.cell? ⟨b0, 4, none⟩ = some (.int .i64 dn)) ∧ W.cell? ⟨b0 + 1, 1, none⟩ = some (.int .i64 at_) ∧ W.cell? ⟨b0 + 1, 2, none⟩ = some (.slice sa sn sc))) (by kernel_rfl) (SX4.out w4.drew rfl rfl) (fun hHeld => ?_)
    obtain ⟨w5, hw5⟩ : ∃ x, w4.drew = x := ⟨_, rfl⟩
    have c5 : Below w4.heap.size w4 w5 := by rw [← hw5]; exact (Below.refl _ _).drew
    rw [hw5] at hHeld ⊢
    clear hw5 SX
    refine wpAnyH_take (i := 0) (v := .agg #[.slice xa xn xc, .slice ya yn yc, .bool dd, .int .i64 ai, .int .i64 dn]) rfl (by kernel_rfl) (by kernel_rfl) (by kernel_rfl) (fun _ _ _ h => h) (Or.inl ⟨by rfl, by intro W hSw; obtain ⟨⟨q0, q1, q2, q3, q4⟩, q5, q6⟩ := hSw; go_simp⟩) (by assumption) ?_
    try simp only [List.getElem_toArray, List.getElem_cons_zero, List.getElem_cons_succ, Act.put, List.setIfInBounds_toArray, List.set_cons_zero, List.set_cons_succ]
    refine wpAnyH_take (i := 1) (v := .pointer (some ⟨b0 + 1, 1, none⟩)) rfl (by kernel_rfl) (by kernel_rfl) (by kernel_rfl) (fun _ _ _ h => h) (Or.inl ⟨by rfl, by intro W hSw; clear hSw; go_simp⟩) (by assumption) ?_
    try simp only [List.getElem_toArray, List.getElem_cons_zero, List.getElem_cons_succ, Act.put, List.setIfInBounds_toArray, List.set_cons_zero, List.set_cons_succ]
    refine wpAnyH_take (i := 2) (v := .int .i64 at_) rfl (by kernel_rfl) (by kernel_rfl) (by kernel_rfl) (fun _ _ _ h => h) (Or.inl ⟨by rfl, by intro W hSw; obtain ⟨⟨q0, q1, q2, q3, q4⟩, q5, q6⟩ := hSw; go_simp⟩) (by assumption) ?_
    try simp only [List.getElem_toArray, List.getElem_cons_zero, List.getElem_cons_succ, Act.put, List.setIfInBounds_toArray, List.set_cons_zero, List.set_cons_succ]
    refine wpAnyH_take (i := 3) (v := .pointer (some ⟨b0 + 1, 2, none⟩)) rfl (by kernel_rfl) (by kernel_rfl) (by kernel_rfl) (fun _ _ _ h => h) (Or.inl ⟨by rfl, by intro W hSw; clear hSw; go_simp⟩) (by assumption) ?_
    try simp only [List.getElem_toArray, List.getElem_cons_zero, List.getElem_cons_succ, Act.put, List.setIfInBounds_toArray, List.set_cons_zero, List.set_cons_succ]
    refine wpAnyH_take (i := 4) (v := .slice sa sn sc) rfl (by kernel_rfl) (by kernel_rfl) (by kernel_rfl) (fun _ _ _ h => h) (Or.inl ⟨by rfl, by intro W hSw; obtain ⟨⟨q0, q1, q2, q3, q4⟩, q5, q6⟩ := hSw; go_simp⟩) (by assumption) ?_
    try simp only [List.getElem_toArray, List.getElem_cons_zero, List.getElem_cons_succ, Act.put, List.setIfInBounds_toArray, List.set_cons_zero, List.set_cons_succ]
    refine wpAnyH_ready (rs := [5, 10]) (by kernel_rfl) (by simp) ?_
    refine AllReadyH.cons rfl (fun K hK => ?_) (AllReadyH.cons rfl (fun K hK => ?_) AllReadyH.nil)
    · go_simp
      refine (HFU.out w5 (HRS.out.below c5)).mono ?_
      rintro e w6 ⟨rfl, d6⟩
      have c6 : Below w4.heap.size w4 w6 := below_next c5 d6
      dsimp only
      refine hK.out _ _ (SX4.out w6 (c6.block b0 (Array.getElem?_eq_some_iff.1 M0.out).1) (c6.block (b0 + 1) (Array.getElem?_eq_some_iff.1 M1.out).1)) (fun hH6 => ?_)
      clear hK K
      try simp only [List.getElem_toArray, List.getElem_cons_zero, List.getElem_cons_succ, Act.put, List.setIfInBounds_toArray, List.set_cons_zero, List.set_cons_succ]
      refine wpAnyH_ready (rs := [6, 10]) (by kernel_rfl) (by simp) ?_
      refine AllReadyH.cons rfl (fun K hK => ?_) (AllReadyH.cons rfl (fun K hK => ?_) AllReadyH.nil)
      · go_simp
        refine (rput_is (HR4.out.below c6) (HD4.out.more c6).size HOK.out hdd hc at_ X HF8.out).mono ?_
        rintro e w7 ⟨v4, rfl, hp7, d7⟩
        obtain ⟨xa4, xn4, xc4, ya4, yn4, yc4, dd4, ai4, dn4, rfl⟩ := ref_agg hp7
        rw [HWE.out]
        have c7 : Below w4.heap.size w4 w7 := below_next c6 d7
        dsimp only
        refine hK.out _ _ (SX4.out w7 (c7.block b0 (Array.getElem?_eq_some_iff.1 M0.out).1) (c7.block (b0 + 1) (Array.getElem?_eq_some_iff.1 M1.out).1)) (fun hH7 => ?_)
        clear hK K
        try simp only [List.getElem_toArray, List.getElem_cons_zero, List.getElem_cons_succ, Act.put, List.setIfInBounds_toArray, List.set_cons_zero, List.set_cons_succ]
        refine wpAnyH_take (i := 7) (v := .tuple #[.agg #[.slice xa4 xn4 xc4, .slice ya4 yn4 yc4, .bool dd4, .int .i64 ai4, .int .i64 dn4], .int .i64 we]) rfl (by kernel_rfl) (by kernel_rfl) (by kernel_rfl) (fun _ _ _ h => h) (Or.inl ⟨by rfl, by intro W hSw; clear hSw; go_simp⟩) (by assumption) ?_
        try simp only [List.getElem_toArray, List.getElem_cons_zero, List.getElem_cons_succ, Act.put, List.setIfInBounds_toArray, List.set_cons_zero, List.set_cons_succ]
        refine wpAnyH_take (i := 8) (v := .agg #[.slice xa4 xn4 xc4, .slice ya4 yn4 yc4, .bool dd4, .int .i64 ai4, .int .i64 dn4]) rfl (by kernel_rfl) (by kernel_rfl) (by kernel_rfl) (fun _ _ _ h => h) (Or.inl ⟨by rfl, by intro W hSw; clear hSw; go_simp⟩) (by assumption) ?_
        try simp only [List.getElem_toArray, List.getElem_cons_zero, List.getElem_cons_succ, Act.put, List.setIfInBounds_toArray, List.set_cons_zero, List.set_cons_succ]
        refine wpAnyH_take (i := 9) (v := .int .i64 we) rfl (by kernel_rfl) (by kernel_rfl) (by kernel_rfl) (fun _ _ _ h => h) (Or.inl ⟨by rfl, by intro W hSw; clear hSw; go_simp⟩) (by assumption) ?_
        try simp only [List.getElem_toArray, List.getElem_cons_zero, List.getElem_cons_succ, Act.put, List.setIfInBounds_toArray, List.set_cons_zero, List.set_cons_succ]
        refine wpAnyH_ready (rs := [10]) (by kernel_rfl) (by simp) ?_
        refine AllReadyH.cons rfl (fun K hK => ?_) AllReadyH.nil
        obtain ⟨w8, hw8⟩ : ∃ x, w7.alloc (.cells #[.slice none 0 0, .slice none 0 0, .bool false, .int .i64 0, .int .i64 0] 28) = x := ⟨_, rfl⟩
        have d8 : Below w7.heap.size w7 w8 := by rw [← hw8]; exact below_box w7 _
        have nx8 : w8.heap[w7.heap.size]? = some (.cells zeroR 28 (0, 0)) := by rw [← hw8]; exact heap_alloc_new w7 _
        obtain ⟨gx, hgx⟩ : ∃ x, w7.heap.size = x := ⟨_, rfl⟩
        have HGX : Hid (w4.heap.size ≤ gx) := Lib.hid (by rw [← hgx]; exact c7.size)
        rw [hgx] at nx8
        have c8 : Below w4.heap.size w4 w8 := below_next c7 d8
        have hp8 := hp7.below d8
        go_simp
        refine hK.out _ _ (SX4.out w8 (c8.block b0 (Array.getElem?_eq_some_iff.1 M0.out).1) (c8.block (b0 + 1) (Array.getElem?_eq_some_iff.1 M1.out).1)) (fun hH8 => ?_)
        clear hK K
        try simp only [List.getElem_toArray, List.getElem_cons_zero, List.getElem_cons_succ, Act.put, List.setIfInBounds_toArray, List.set_cons_zero, List.set_cons_succ]
        have y0 := cell_of_row nx8 0
        have y1 := cell_of_row nx8 1
        have y2 := cell_of_row nx8 2
        have y3 := cell_of_row nx8 3
        have y4 := cell_of_row nx8 4
        have fy := fun i => frozen_of_row w8 gx i _ _ nx8
        have G := (five_set (.slice xa4 xn4 xc4) (.slice ya4 yn4 yc4) (.bool dd4) (.int .i64 ai4) (.int .i64 dn4) nx8).2
        have nz := five_heap (.slice xa4 xn4 xc4) (.slice ya4 yn4 yc4) (.bool dd4) (.int .i64 ai4) (.int .i64 dn4) nx8
        obtain ⟨w9, hw9⟩ : ∃ x, (((((w8.setCell ⟨gx, 0, none⟩ (.slice xa4 xn4 xc4)).setCell ⟨gx, 1, none⟩ (.slice ya4 yn4 yc4)).setCell ⟨gx, 2, none⟩ (.bool dd4)).setCell ⟨gx, 3, none⟩ (.int .i64 ai4)).setCell ⟨gx, 4, none⟩ (.int .i64 dn4)) = x := ⟨_, rfl⟩
        rw [hw9] at G nz
        have hgx4 : w4.heap.size ≤ gx := HGX.out
        have c9 : Below w4.heap.size w4 w9 := c8.grown G c8.size (fun i hi => by obtain rfl := Option.some.inj hi; exact hgx4)
        have KK9 : Hid (DKeeps g gs cv w w9) := Lib.hid (KK.out.trans (DKeeps.of_below c9))
        have hd9 := (HD4.out.more c8).keptR G nx8
        have hp9 := hp8.keptR G nx8
        have HD9 := Lib.hid hd9
        have HP9 := Lib.hid hp9
        have K9 : Hid (Below B w w9) := Lib.hid (K4.out.trans (c9.mono HD4.out.size))
        have m29 := (c9.block (b0 + 1 + 1) (Array.getElem?_eq_some_iff.1 M2.out).1).trans M2.out
        have M29 := Lib.hid m29
        have hS9 := SX4.out w9 (c9.block b0 (Array.getElem?_eq_some_iff.1 M0.out).1) (c9.block (b0 + 1) (Array.getElem?_eq_some_iff.1 M1.out).1)
        have NZ := Lib.hid nz
        refine wpAnyH_ready (rs := [11]) (by kernel_rfl) (by simp) ?_
        refine AllReadyH.cons rfl (fun K hK => ?_) AllReadyH.nil
        clear nz m29 c9 hd9 hp9 G
        go_simp
        refine hK.out _ _ hS9 (fun hH9 => ?_)
        clear hK K hw9
        try simp only [List.getElem_toArray, List.getElem_cons_zero, List.getElem_cons_succ, Act.put, List.setIfInBounds_toArray, List.set_cons_zero, List.set_cons_succ]
        refine wpAnyH_take (i := 12) (v := .int .i64 we) rfl (by kernel_rfl) (by kernel_rfl) (by kernel_rfl) (fun _ _ _ h => h) (Or.inl ⟨by rfl, by intro W hSw; clear hSw; go_simp⟩) (by assumption) ?_
        try simp only [List.getElem_toArray, List.getElem_cons_zero, List.getElem_cons_succ, Act.put, List.setIfInBounds_toArray, List.set_cons_zero, List.set_cons_succ]
        refine wpAnyH_done (by kernel_rfl) ?_ _
        skip
        clear y0 y1 y2 y3 y4 fy hH9 hS9
        have p0 : w9.cell? ⟨gx, 0, none⟩ = some (.slice xa4 xn4 xc4) := cell_of_row NZ.out 0
        have p1 : w9.cell? ⟨gx, 1, none⟩ = some (.slice ya4 yn4 yc4) := cell_of_row NZ.out 1
        have p2 : w9.cell? ⟨gx, 2, none⟩ = some (.bool dd4) := cell_of_row NZ.out 2
        have p3 : w9.cell? ⟨gx, 3, none⟩ = some (.int .i64 ai4) := cell_of_row NZ.out 3
        have p4 : w9.cell? ⟨gx, 4, none⟩ = some (.int .i64 dn4) := cell_of_row NZ.out 4
        have z0 := cell_of_row M29.out 0
        have z1 := cell_of_row M29.out 1
        have z2 := cell_of_row M29.out 2
        have z3 := cell_of_row M29.out 3
        have z4 := cell_of_row M29.out 4
        have ff := fun i => frozen_of_row w9 (b0 + 1 + 1) i _ _ M29.out
        have hself : (we == we) = true := by simp
        go_wp2
        refine bodyPost_ret (results_five_tmp rfl _ _ (b0 + 1 + 1) rfl (five_set _ _ _ _ _ M29.out).1) rfl ?_
        exact do_fin HD9.out HP9.out K9.out M29.out (by omega) KK9.out (by omega) (writeD_bounds D at_ X).1 (writeD_bounds D at_ X).2.1 (writeD_bounds D at_ X).2.2 (calm_write _ D at_ X) LIE.out
      · obtain ⟨w7, hw7⟩ : ∃ x, w6.alloc (.cells #[.slice none 0 0, .slice none 0 0, .bool false, .int .i64 0, .int .i64 0] 28) = x := ⟨_, rfl⟩
        have d7 : Below w6.heap.size w6 w7 := by rw [← hw7]; exact below_box w6 _
        have nx7 : w7.heap[w6.heap.size]? = some (.cells zeroR 28 (0, 0)) := by rw [← hw7]; exact heap_alloc_new w6 _
        obtain ⟨gx, hgx⟩ : ∃ x, w6.heap.size = x := ⟨_, rfl⟩
        have HGX : Hid (w4.heap.size ≤ gx) := Lib.hid (by rw [← hgx]; exact c6.size)
        rw [hgx] at nx7
        have c7 : Below w4.heap.size w4 w7 := below_next c6 d7
        go_simp
        refine hK.out _ _ (SX4.out w7 (c7.block b0 (Array.getElem?_eq_some_iff.1 M0.out).1) (c7.block (b0 + 1) (Array.getElem?_eq_some_iff.1 M1.out).1)) (fun hH7 => ?_)
        clear hK K
        try simp only [List.getElem_toArray, List.getElem_cons_zero, List.getElem_cons_succ, Act.put, List.setIfInBounds_toArray, List.set_cons_zero, List.set_cons_succ]
        refine wpAnyH_ready (rs := [6]) (by kernel_rfl) (by simp) ?_
        refine AllReadyH.cons rfl (fun K hK => ?_) AllReadyH.nil
        go_simp
        refine (rput_is (HR4.out.below c7) (HD4.out.more c7).size HOK.out hdd hc at_ X HF8.out).mono ?_
        rintro e w8 ⟨v4, rfl, hp8, d8⟩
        obtain ⟨xa4, xn4, xc4, ya4, yn4, yc4, dd4, ai4, dn4, rfl⟩ := ref_agg hp8
        rw [HWE.out]
        have c8 : Below w4.heap.size w4 w8 := below_next c7 d8
        have nx8 := (d8.block gx (Array.getElem?_eq_some_iff.1 nx7).1).trans nx7
        dsimp only
        refine hK.out _ _ (SX4.out w8 (c8.block b0 (Array.getElem?_eq_some_iff.1 M0.out).1) (c8.block (b0 + 1) (Array.getElem?_eq_some_iff.1 M1.out).1)) (fun hH8 => ?_)
        clear hK K
        try simp only [List.getElem_toArray, List.getElem_cons_zero, List.getElem_cons_succ, Act.put, List.setIfInBounds_toArray, List.set_cons_zero, List.set_cons_succ]
        refine wpAnyH_take (i := 7) (v := .tuple #[.agg #[.slice xa4 xn4 xc4, .slice ya4 yn4 yc4, .bool dd4, .int .i64 ai4, .int .i64 dn4], .int .i64 we]) rfl (by kernel_rfl) (by kernel_rfl) (by kernel_rfl) (fun _ _ _ h => h) (Or.inl ⟨by rfl, by intro W hSw; clear hSw; go_simp⟩) (by assumption) ?_
        try simp only [List.getElem_toArray, List.getElem_cons_zero, List.getElem_cons_succ, Act.put, List.setIfInBounds_toArray, List.set_cons_zero, List.set_cons_succ]
        refine wpAnyH_take (i := 8) (v := .agg #[.slice xa4 xn4 xc4, .slice ya4 yn4 yc4, .bool dd4, .int .i64 ai4, .int .i64 dn4]) rfl (by kernel_rfl) (by kernel_rfl) (by kernel_rfl) (fun _ _ _ h => h) (Or.inl ⟨by rfl, by intro W hSw; clear hSw; go_simp⟩) (by assumption) ?_
        try simp only [List.getElem_toArray, List.getElem_cons_zero, List.getElem_cons_succ, Act.put, List.setIfInBounds_toArray, List.set_cons_zero, List.set_cons_succ]
        refine wpAnyH_take (i := 9) (v := .int .i64 we) rfl (by kernel_rfl) (by kernel_rfl) (by kernel_rfl) (fun _ _ _ h => h) (Or.inl ⟨by rfl, by intro W hSw; clear hSw; go_simp⟩) (by assumption) ?_
        try simp only [List.getElem_toArray, List.getElem_cons_zero, List.getElem_cons_succ, Act.put, List.setIfInBounds_toArray, List.set_cons_zero, List.set_cons_succ]
        have y0 := cell_of_row nx8 0
        have y1 := cell_of_row nx8 1
        have y2 := cell_of_row nx8 2
        have y3 := cell_of_row nx8 3
        have y4 := cell_of_row nx8 4
        have fy := fun i => frozen_of_row w8 gx i _ _ nx8
        have G := (five_set (.slice xa4 xn4 xc4) (.slice ya4 yn4 yc4) (.bool dd4) (.int .i64 ai4) (.int .i64 dn4) nx8).2
        have nz := five_heap (.slice xa4 xn4 xc4) (.slice ya4 yn4 yc4) (.bool dd4) (.int .i64 ai4) (.int .i64 dn4) nx8
        obtain ⟨w9, hw9⟩ : ∃ x, (((((w8.setCell ⟨gx, 0, none⟩ (.slice xa4 xn4 xc4)).setCell ⟨gx, 1, none⟩ (.slice ya4 yn4 yc4)).setCell ⟨gx, 2, none⟩ (.bool dd4)).setCell ⟨gx, 3, none⟩ (.int .i64 ai4)).setCell ⟨gx, 4, none⟩ (.int .i64 dn4)) = x := ⟨_, rfl⟩
        rw [hw9] at G nz
        have hgx4 : w4.heap.size ≤ gx := HGX.out
        have c9 : Below w4.heap.size w4 w9 := c8.grown G c8.size (fun i hi => by obtain rfl := Option.some.inj hi; exact hgx4)
        have KK9 : Hid (DKeeps g gs cv w w9) := Lib.hid (KK.out.trans (DKeeps.of_below c9))
        have hd9 := (HD4.out.more c8).keptR G nx8
        have hp9 := hp8.keptR G nx8
        have HD9 := Lib.hid hd9
        have HP9 := Lib.hid hp9
        have K9 : Hid (Below B w w9) := Lib.hid (K4.out.trans (c9.mono HD4.out.size))
        have m29 := (c9.block (b0 + 1 + 1) (Array.getElem?_eq_some_iff.1 M2.out).1).trans M2.out
        have M29 := Lib.hid m29
        have hS9 := SX4.out w9 (c9.block b0 (Array.getElem?_eq_some_iff.1 M0.out).1) (c9.block (b0 + 1) (Array.getElem?_eq_some_iff.1 M1.out).1)
        have NZ := Lib.hid nz
        refine wpAnyH_ready (rs := [11]) (by kernel_rfl) (by simp) ?_
        refine AllReadyH.cons rfl (fun K hK => ?_) AllReadyH.nil
        clear nz m29 c9 hd9 hp9 G
        go_simp
        refine hK.out _ _ hS9 (fun hH9 => ?_)
        clear hK K hw9
        try simp only [List.getElem_toArray, List.getElem_cons_zero, List.getElem_cons_succ, Act.put, List.setIfInBounds_toArray, List.set_cons_zero, List.set_cons_succ]
        refine wpAnyH_take (i := 12) (v := .int .i64 we) rfl (by kernel_rfl) (by kernel_rfl) (by kernel_rfl) (fun _ _ _ h => h) (Or.inl ⟨by rfl, by intro W hSw; clear hSw; go_simp⟩) (by assumption) ?_
        try simp only [List.getElem_toArray, List.getElem_cons_zero, List.getElem_cons_succ, Act.put, List.setIfInBounds_toArray, List.set_cons_zero, List.set_cons_succ]
        refine wpAnyH_done (by kernel_rfl) ?_ _
        skip
        clear y0 y1 y2 y3 y4 fy hH9 hS9
        have p0 : w9.cell? ⟨gx, 0, none⟩ = some (.slice xa4 xn4 xc4) := cell_of_row NZ.out 0
        have p1 : w9.cell? ⟨gx, 1, none⟩ = some (.slice ya4 yn4 yc4) := cell_of_row NZ.out 1
        have p2 : w9.cell? ⟨gx, 2, none⟩ = some (.bool dd4) := cell_of_row NZ.out 2
        have p3 : w9.cell? ⟨gx, 3, none⟩ = some (.int .i64 ai4) := cell_of_row NZ.out 3
        have p4 : w9.cell? ⟨gx, 4, none⟩ = some (.int .i64 dn4) := cell_of_row NZ.out 4
        have z0 := cell_of_row M29.out 0
        have z1 := cell_of_row M29.out 1
        have z2 := cell_of_row M29.out 2
        have z3 := cell_of_row M29.out 3
        have z4 := cell_of_row M29.out 4
        have ff := fun i => frozen_of_row w9 (b0 + 1 + 1) i _ _ M29.out
        have hself : (we == we) = true := by simp
        go_wp2
        refine bodyPost_ret (results_five_tmp rfl _ _ (b0 + 1 + 1) rfl (five_set _ _ _ _ _ M29.out).1) rfl ?_
        exact do_fin HD9.out HP9.out K9.out M29.out (by omega) KK9.out (by omega) (writeD_bounds D at_ X).1 (writeD_bounds D at_ X).2.1 (writeD_bounds D at_ X).2.2 (calm_write _ D at_ X) LIE.out
    · obtain ⟨w6, hw6⟩ : ∃ x, w5.alloc (.cells #[.slice none 0 0, .slice none 0 0, .bool false, .int .i64 0, .int .i64 0] 28) = x := ⟨_, rfl⟩
      have d6 : Below w5.heap.size w5 w6 := by rw [← hw6]; exact below_box w5 _
      have nx6 : w6.heap[w5.heap.size]? = some (.cells zeroR 28 (0, 0)) := by rw [← hw6]; exact heap_alloc_new w5 _
      obtain ⟨gx, hgx⟩ : ∃ x, w5.heap.size = x := ⟨_, rfl⟩
      have HGX : Hid (w4.heap.size ≤ gx) := Lib.hid (by rw [← hgx]; exact c5.size)
      rw [hgx] at nx6
      have c6 : Below w4.heap.size w4 w6 := below_next c5 d6
      go_simp
      refine hK.out _ _ (SX4.out w6 (c6.block b0 (Array.getElem?_eq_some_iff.1 M0.out).1) (c6.block (b0 + 1) (Array.getElem?_eq_some_iff.1 M1.out).1)) (fun hH6 => ?_)
      clear hK K
      try simp only [List.getElem_toArray, List.getElem_cons_zero, List.getElem_cons_succ, Act.put, List.setIfInBounds_toArray, List.set_cons_zero, List.set_cons_succ]
      refine wpAnyH_ready (rs := [5]) (by kernel_rfl) (by simp) ?_
      refine AllReadyH.cons rfl (fun K hK => ?_) AllReadyH.nil
      go_simp
      refine (HFU.out w6 (HRS.out.below c6)).mono ?_
      rintro e w7 ⟨rfl, d7⟩
      have c7 : Below w4.heap.size w4 w7 := below_next c6 d7
      have nx7 := (d7.block gx (Array.getElem?_eq_some_iff.1 nx6).1).trans nx6
      dsimp only
      refine hK.out _ _ (SX4.out w7 (c7.block b0 (Array.getElem?_eq_some_iff.1 M0.out).1) (c7.block (b0 + 1) (Array.getElem?_eq_some_iff.1 M1.out).1)) (fun hH7 => ?_)
      clear hK K
      try simp only [List.getElem_toArray, List.getElem_cons_zero, List.getElem_cons_succ, Act.put, List.setIfInBounds_toArray, List.set_cons_zero, List.set_cons_succ]
      refine wpAnyH_ready (rs := [6]) (by kernel_rfl) (by simp) ?_
      refine AllReadyH.cons rfl (fun K hK => ?_) AllReadyH.nil
      go_simp
      refine (rput_is (HR4.out.below c7) (HD4.out.more c7).size HOK.out hdd hc at_ X HF8.out).mono ?_
      rintro e w8 ⟨v4, rfl, hp8, d8⟩
      obtain ⟨xa4, xn4, xc4, ya4, yn4, yc4, dd4, ai4, dn4, rfl⟩ := ref_agg hp8
      rw [HWE.out]
      have c8 : Below w4.heap.size w4 w8 := below_next c7 d8
      have nx8 := (d8.block gx (Array.getElem?_eq_some_iff.1 nx7).1).trans nx7
      dsimp only
      refine hK.out _ _ (SX4.out w8 (c8.block b0 (Array.getElem?_eq_some_iff.1 M0.out).1) (c8.block (b0 + 1) (Array.getElem?_eq_some_iff.1 M1.out).1)) (fun hH8 => ?_)
      clear hK K
      try simp only [List.getElem_toArray, List.getElem_cons_zero, List.getElem_cons_succ, Act.put, List.setIfInBounds_toArray, List.set_cons_zero, List.set_cons_succ]
      refine wpAnyH_take (i := 7) (v := .tuple #[.agg #[.slice xa4 xn4 xc4, .slice ya4 yn4 yc4, .bool dd4, .int .i64 ai4, .int .i64 dn4], .int .i64 we]) rfl (by kernel_rfl) (by kernel_rfl) (by kernel_rfl) (fun _ _ _ h => h) (Or.inl ⟨by rfl, by intro W hSw; clear hSw; go_simp⟩) (by assumption) ?_
      try simp only [List.getElem_toArray, List.getElem_cons_zero, List.getElem_cons_succ, Act.put, List.setIfInBounds_toArray, List.set_cons_zero, List.set_cons_succ]
      refine wpAnyH_take (i := 8) (v := .agg #[.slice xa4 xn4 xc4, .slice ya4 yn4 yc4, .bool dd4, .int .i64 ai4, .int .i64 dn4]) rfl (by kernel_rfl) (by kernel_rfl) (by kernel_rfl) (fun _ _ _ h => h) (Or.inl ⟨by rfl, by intro W hSw; clear hSw; go_simp⟩) (by assumption) ?_
      try simp only [List.getElem_toArray, List.getElem_cons_zero, List.getElem_cons_succ, Act.put, List.setIfInBounds_toArray, List.set_cons_zero, List.set_cons_succ]
      refine wpAnyH_take (i := 9) (v := .int .i64 we) rfl (by kernel_rfl) (by kernel_rfl) (by kernel_rfl) (fun _ _ _ h => h) (Or.inl ⟨by rfl, by intro W hSw; clear hSw; go_simp⟩) (by assumption) ?_
      try simp only [List.getElem_toArray, List.getElem_cons_zero, List.getElem_cons_succ, Act.put, List.setIfInBounds_toArray, List.set_cons_zero, List.set_cons_succ]
      have y0 := cell_of_row nx8 0
      have y1 := cell_of_row nx8 1
      have y2 := cell_of_row nx8 2
      have y3 := cell_of_row nx8 3
      have y4 := cell_of_row nx8 4
      have fy := fun i => frozen_of_row w8 gx i _ _ nx8
      have G := (five_set (.slice xa4 xn4 xc4) (.slice ya4 yn4 yc4) (.bool dd4) (.int .i64 ai4) (.int .i64 dn4) nx8).2
      have nz := five_heap (.slice xa4 xn4 xc4) (.slice ya4 yn4 yc4) (.bool dd4) (.int .i64 ai4) (.int .i64 dn4) nx8
      obtain ⟨w9, hw9⟩ : ∃ x, (((((w8.setCell ⟨gx, 0, none⟩ (.slice xa4 xn4 xc4)).setCell ⟨gx, 1, none⟩ (.slice ya4 yn4 yc4)).setCell ⟨gx, 2, none⟩ (.bool dd4)).setCell ⟨gx, 3, none⟩ (.int .i64 ai4)).setCell ⟨gx, 4, none⟩ (.int .i64 dn4)) = x := ⟨_, rfl⟩
      rw [hw9] at G nz
      have hgx4 : w4.heap.size ≤ gx := HGX.out
      have c9 : Below w4.heap.size w4 w9 := c8.grown G c8.size (fun i hi => by obtain rfl := Option.some.inj hi; exact hgx4)
      have KK9 : Hid (DKeeps g gs cv w w9) := Lib.hid (KK.out.trans (DKeeps.of_below c9))
      have hd9 := (HD4.out.more c8).keptR G nx8
      have hp9 := hp8.keptR G nx8
      have HD9 := Lib.hid hd9
      have HP9 := Lib.hid hp9
      have K9 : Hid (Below B w w9) := Lib.hid (K4.out.trans (c9.mono HD4.out.size))
      have m29 := (c9.block (b0 + 1 + 1) (Array.getElem?_eq_some_iff.1 M2.out).1).trans M2.out
      have M29 := Lib.hid m29
      have hS9 := SX4.out w9 (c9.block b0 (Array.getElem?_eq_some_iff.1 M0.out).1) (c9.block (b0 + 1) (Array.getElem?_eq_some_iff.1 M1.out).1)
      have NZ := Lib.hid nz
      refine wpAnyH_ready (rs := [11]) (by kernel_rfl) (by simp) ?_
      refine AllReadyH.cons rfl (fun K hK => ?_) AllReadyH.nil
      clear nz m29 c9 hd9 hp9 G
      go_simp
      refine hK.out _ _ hS9 (fun hH9 => ?_)
      clear hK K hw9
      try simp only [List.getElem_toArray, List.getElem_cons_zero, List.getElem_cons_succ, Act.put, List.setIfInBounds_toArray, List.set_cons_zero, List.set_cons_succ]
      refine wpAnyH_take (i := 12) (v := .int .i64 we) rfl (by kernel_rfl) (by kernel_rfl) (by kernel_rfl) (fun _ _ _ h => h) (Or.inl ⟨by rfl, by intro W hSw; clear hSw; go_simp⟩) (by assumption) ?_
      try simp only [List.getElem_toArray, List.getElem_cons_zero, List.getElem_cons_succ, Act.put, List.setIfInBounds_toArray, List.set_cons_zero, List.set_cons_succ]
      refine wpAnyH_done (by kernel_rfl) ?_ _
      skip
      clear y0 y1 y2 y3 y4 fy hH9 hS9
      have p0 : w9.cell? ⟨gx, 0, none⟩ = some (.slice xa4 xn4 xc4) := cell_of_row NZ.out 0
      have p1 : w9.cell? ⟨gx, 1, none⟩ = some (.slice ya4 yn4 yc4) := cell_of_row NZ.out 1
      have p2 : w9.cell? ⟨gx, 2, none⟩ = some (.bool dd4) := cell_of_row NZ.out 2
      have p3 : w9.cell? ⟨gx, 3, none⟩ = some (.int .i64 ai4) := cell_of_row NZ.out 3
      have p4 : w9.cell? ⟨gx, 4, none⟩ = some (.int .i64 dn4) := cell_of_row NZ.out 4
      have z0 := cell_of_row M29.out 0
      have z1 := cell_of_row M29.out 1
      have z2 := cell_of_row M29.out 2
      have z3 := cell_of_row M29.out 3
      have z4 := cell_of_row M29.out 4
      have ff := fun i => frozen_of_row w9 (b0 + 1 + 1) i _ _ M29.out
      have hself : (we == we) = true := by simp
      go_wp2
      refine bodyPost_ret (results_five_tmp rfl _ _ (b0 + 1 + 1) rfl (five_set _ _ _ _ _ M29.out).1) rfl ?_
      exact do_fin HD9.out HP9.out K9.out M29.out (by omega) KK9.out (by omega) (writeD_bounds D at_ X).1 (writeD_bounds D at_ X).2.1 (writeD_bounds D at_ X).2.2 (calm_write _ D at_ X) LIE.out
  · have x0 : w2.cell? ⟨b0, 0, none⟩ = some (.slice xa xn xc) := cell_of_row N0.out 0
    have x1 : w2.cell? ⟨b0, 1, none⟩ = some (.slice ya yn yc) := cell_of_row N0.out 1
    have x2 : w2.cell? ⟨b0, 2, none⟩ = some (.bool dd) := cell_of_row N0.out 2
    have x3 : w2.cell? ⟨b0, 3, none⟩ = some (.int .i64 ai) := cell_of_row N0.out 3
    have x4 : w2.cell? ⟨b0, 4, none⟩ = some (.int .i64 dn) := cell_of_row N0.out 4
    have HIS := Lib.hid (fun (W : World) (hW : Below w2.heap.size w2 W) => is3_true (HD.out.more hW) (HR.out.below hW))
    have SX : Hid (∀ W : World, W.heap[b0]? = w2.heap[b0]? → (W.cell? ⟨b0, 0, none⟩ = some (.slice xa xn xc) ∧ W.cell? ⟨b0, 1, none⟩ = some (.slice ya yn yc) ∧ W.cell? ⟨b0, 2, none⟩ = some (.bool dd) ∧ W.cell? ⟨b0, 3, none⟩ = some (.int .i64 ai) ∧ W.cell? ⟨b0, 4, none⟩ = some (.int .i64 dn))) := Lib.hid (fun W e0 => by
      have k0 := e0.trans N0.out
      exact ⟨cell_of_row k0 0, cell_of_row k0 1, cell_of_row k0 2, cell_of_row k0 3, cell_of_row k0 4⟩)
    go_wp2_with fail
    refine wp_region_held_drew (S := fun W => (W.cell? ⟨b0, 0, none⟩ = some (.slice xa xn xc) ∧ W.cell? ⟨b0, 1, none⟩ = some (.slice ya yn yc) ∧ W.cell? ⟨b0, 2, none⟩ = some (.bool dd) ∧ W.cell? ⟨b0, 3, none⟩ = some (.int .i64 ai) ∧ W.cell? ⟨b0, 4, none⟩ = some (.int .i64 dn))) (by kernel_rfl) (SX.out w2.drew rfl) (fun hHeld => ?_)
    refine wpAnyH_take (i := 0) (v := .agg #[.slice xa xn xc, .slice ya yn yc, .bool dd, .int .i64 ai, .int .i64 dn]) rfl (by kernel_rfl) (by kernel_rfl) (by kernel_rfl) (fun _ _ _ h => h) (Or.inl ⟨by rfl, by intro W hSw; obtain ⟨q0, q1, q2, q3, q4⟩ := hSw; go_simp⟩) (by assumption) ?_
    try simp only [List.getElem_toArray, List.getElem_cons_zero, List.getElem_cons_succ, Act.put, List.setIfInBounds_toArray, List.set_cons_zero, List.set_cons_succ]
    refine wpAnyH_take (i := 1) (v := .pointer (some ⟨g, 0, none⟩)) rfl (by kernel_rfl) (by kernel_rfl) (by kernel_rfl) (fun _ _ _ h => h) (Or.inl ⟨by rfl, by intro W hSw; clear hSw; go_simp⟩) (by assumption) ?_
    try simp only [List.getElem_toArray, List.getElem_cons_zero, List.getElem_cons_succ, Act.put, List.setIfInBounds_toArray, List.set_cons_zero, List.set_cons_succ]
    refine wpAnyH_take (i := 2) (v := .agg #[.slice xa xn xc, .slice ya yn yc, .bool dd, .int .i64 ai, .int .i64 dn]) rfl (by kernel_rfl) (by kernel_rfl) (by kernel_rfl) (fun _ _ _ h => h) (Or.inl ⟨by rfl, by intro W hSw; obtain ⟨q0, q1, q2, q3, q4⟩ := hSw; go_simp⟩) (by assumption) ?_
    try simp only [List.getElem_toArray, List.getElem_cons_zero, List.getElem_cons_succ, Act.put, List.setIfInBounds_toArray, List.set_cons_zero, List.set_cons_succ]
    refine wpAnyH_ready (rs := [3]) (by kernel_rfl) (by simp) ?_
    refine AllReadyH.cons rfl (fun K hK => ?_) AllReadyH.nil
    have b2d : Below w2.heap.size w2 w2.drew := (Below.refl _ _).drew
    go_simp
    refine (HIS.out w2.drew b2d).mono ?_
    rintro e w3 ⟨rfl, b3⟩
    have b23 : Below w2.heap.size w2 w3 := below_next b2d b3
    have m2 := (b23.block (b0 + 1 + 1) (Array.getElem?_eq_some_iff.1 N2.out).1).trans N2.out
    have hS3 := SX.out w3 (b23.block b0 (Array.getElem?_eq_some_iff.1 N0.out).1)
    have HD3 := Lib.hid (HD.out.more b23)
    have HR3 := Lib.hid (HR.out.below b23)
    have K3 := Lib.hid (HBB.out _ (below_next KB.out b23))
    have KK3 : Hid (DKeeps g gs cv w w3) := Lib.hid (DKeeps.of_below (below_next KB.out b23))
    have M2 := Lib.hid m2
    have hb0l : b0 < w3.heap.size := by have := b23.size; omega
    dsimp only
    refine hK.out _ _ hS3 (fun hHeld3 => ?_)
    clear hK K b3 b2d b23 hHeld x0 x1 x2 x3 x4 hS3
    try simp only [List.getElem_toArray, List.getElem_cons_zero, List.getElem_cons_succ, Act.put, List.setIfInBounds_toArray, List.set_cons_zero, List.set_cons_succ]
    have z0 := cell_of_row m2 0
    have z1 := cell_of_row m2 1
    have z2 := cell_of_row m2 2
    have z3 := cell_of_row m2 3
    have z4 := cell_of_row m2 4
    have ff := fun i => frozen_of_row w3 (b0 + 1 + 1) i _ _ m2
    clear m2
    have G3 := Lib.hid (five_set (.slice xa xn xc) (.slice ya yn yc) (.bool dd) (.int .i64 ai) (.int .i64 dn) M2.out).2
    have SX3 : Hid (∀ W : World, W.heap[b0]? = w3.heap[b0]? → (W.cell? ⟨b0, 0, none⟩ = some (.slice xa xn xc) ∧ W.cell? ⟨b0, 1, none⟩ = some (.slice ya yn yc) ∧ W.cell? ⟨b0, 2, none⟩ = some (.bool dd) ∧ W.cell? ⟨b0, 3, none⟩ = some (.int .i64 ai) ∧ W.cell? ⟨b0, 4, none⟩ = some (.int .i64 dn))) := Lib.hid (fun W e0 => by
      obtain ⟨q0, q1, q2, q3, q4⟩ := hHeld3
      unfold World.cell? at *
      simp only [e0]
      exact ⟨q0, q1, q2, q3, q4⟩)
    refine wpAnyH_ready (rs := [4]) (by kernel_rfl) (by simp) ?_
    refine AllReadyH.cons rfl (fun K hK => ?_) AllReadyH.nil
    go_simp
    refine hK.out _ _ (SX3.out _ (G3.out.block b0 hb0l (by intro e; have : b0 = b0 + 1 + 1 := Option.some.inj e; omega))) (fun hHeld4 => ?_)
    clear hK K
    try simp only [List.getElem_toArray, List.getElem_cons_zero, List.getElem_cons_succ, Act.put, List.setIfInBounds_toArray, List.set_cons_zero, List.set_cons_succ]
    refine wpAnyH_take (i := 5) (v := .bool true) rfl (by kernel_rfl) (by kernel_rfl) (by kernel_rfl) (fun _ _ _ h => h) (Or.inl ⟨by rfl, by intro W hSw; clear hSw; go_simp⟩) (by assumption) ?_
    try simp only [List.getElem_toArray, List.getElem_cons_zero, List.getElem_cons_succ, Act.put, List.setIfInBounds_toArray, List.set_cons_zero, List.set_cons_succ]
    refine wpAnyH_done (by kernel_rfl) ?_ _
    clear hHeld3 hHeld4
    go_wp2
    refine bodyPost_ret (results_five_tmp rfl _ _ (b0 + 1 + 1) rfl (five_set _ _ _ _ _ M2.out).1) rfl ?_
    exact do_fin HD3.out HR3.out K3.out M2.out (by omega) KK3.out (by omega) rfl (by omega) (by omega) (calm_same _ D) (.inl rfl)
end Go.Proofs.Ythainmbapikjiaa
