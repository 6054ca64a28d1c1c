/- The document's table of processes: Tick. -/
import Derived.Test.YtnengblmcfiajaaGjpgolngo
namespace Go.Proofs.Ytnengblmcfiajaa
open Go.RowKit Go.Sort
set_option linter.unusedVariables false
set_option linter.unusedSimpArgs false
set_option maxRecDepth 100000

theorem Bx.turn {w W : World} {g0 g1 : Nat} {v : Value} {m la no : Int} (h : Bx w W g0 g1 v m la no) (v' : Value) (m' l' n' : Int) :
    (∀ j, W.frozen? ⟨g0, j, none⟩ = false) ∧ ∃ W', (((W.setCell ⟨g0, 0, none⟩ v').setCell ⟨g0, 1, none⟩ (.int .i64 m')).setCell ⟨g0, 2, none⟩ (.int .i64 l')).setCell ⟨g0, 3, none⟩ (.int .i64 n') = W' ∧ Hid (Bx w W' g0 g1 v' m' l' n' ∧ W.grownBy W' (some g0)) := by
  have hs := h.t.set4 v' m' l' n'
  have hg := h.g
  exact ⟨h.t.cells.2.1, _, rfl, Lib.hid ⟨⟨hs.1, h.r.kept hs.2 (by intro e; have e9 : g1 = g0 := Option.some.inj e; omega), h.b.grown hs.2 h.b.size (by intro j hj; obtain rfl := Option.some.inj hj; exact hg.1), hg⟩, hs.2⟩⟩
theorem Bx.now {w W : World} {g0 g1 : Nat} {v : Value} {m la no : Int} (h : Bx w W g0 g1 v m la no) (x : Int) :
    ∃ W4, W.setCell ⟨g0, 3, none⟩ (.int .i64 x) = W4 ∧ Hid (Bx w W4 g0 g1 v m la x ∧ W.grownBy W4 (some g0)) := by
  have h3 := heap_setCell_same _ g0 3 _ _ (.int .i64 x) h.t
  have k := grown_setCellT W ⟨g0, 3, none⟩ (.int .i64 x)
  have hg := h.g
  have bb := h.b.grown k h.b.size (by intro j hj; obtain rfl := Option.some.inj hj; exact hg.1)
  exact ⟨_, rfl, Lib.hid ⟨⟨h3, h.r.kept k (by intro e; have e9 : g1 = g0 := Option.some.inj e; omega), bb, hg⟩, k⟩⟩
theorem Bx.keptV {w W W' : World} {g0 g1 B' : Nat} {v : Value} {m la no : Int} {v1 v2 : Value} {l1 l2 : List Value} (h : Bx w W g0 g1 v m la no) (ho : OwnsV B' W' 3 v2 l2) (k : W.grownBy W' v1.ownBlock) (h1 : OwnsV B' W 3 v1 l1) {W0 : World} (hs : B' ≤ W0.heap.size) (hg : g0 < B' ∧ g1 < B') : Bx w W' g0 g1 v m la no := by
  have hne : ∀ g, g < B' → some g ≠ v1.ownBlock := fun g hlt e => by have := (h1.lt g e.symm).1; omega
  refine ⟨h.t.kept k (hne g0 hg.1), h.r.kept k (hne g1 hg.2), h.b.grown k h.b.size (fun j hj => by have h2 := (h1.lt j hj).1; have h3 := h.g.1; omega), h.g⟩
theorem OwnsR'.keptI {B B' : Nat} {w w' : World} {e : TypeId} {k : Nat} {v v1 : Value} {l : List (List Value)} {l1 : List Value} (h : OwnsR' B w e k v l) (h1 : OwnsV B' w 3 v1 l1) (hg : w.grownBy w' v1.ownBlock) (hne : e ≠ 3) : OwnsR' B w' e k v l := by
  refine h.kept hg ?_
  rcases ho : v.ownBlock with _ | j
  · exact .inl rfl
  · right
    intro e1
    rw [← ho] at e1
    obtain ⟨_, ⟨rfl, _⟩ | ⟨g9, c9, cur9, rfl, _, hg9, _⟩⟩ := h1
    · rw [ho] at e1; cases e1
    · exact h.apartT hg9 hne e1
def wokeK (now : Int) (k : Nat) (l : List ProcD) : List ProcD := (l.take k).map (fun s => if dueB now s then wakeP s else s) ++ l.drop k
theorem wokeK_zero (now : Int) (l : List ProcD) : wokeK now 0 l = l := by unfold wokeK; simp
theorem wokeK_all (now : Int) (l : List ProcD) : wokeK now l.length l = l.map (fun s => if dueB now s then wakeP s else s) := by unfold wokeK; simp
theorem wokeK_len (now : Int) (k : Nat) (l : List ProcD) : (wokeK now k l).length = l.length := by unfold wokeK; rw [List.length_append, List.length_map, List.length_take, List.length_drop]; omega
theorem wokeK_get {now : Int} {k : Nat} {l : List ProcD} {u : ProcD} (h : l[k]? = some u) : (wokeK now k l)[k]? = some u := by
  have hk := (List.getElem?_eq_some_iff.1 h).1
  unfold wokeK
  rw [List.getElem?_append_right (by rw [List.length_map, List.length_take]; omega), List.length_map, List.length_take, List.getElem?_drop, show k + (k - min k l.length) = k by omega, h]
theorem wokeK_snoc {now : Int} {k : Nat} {l : List ProcD} {u : ProcD} (h : l[k]? = some u) : wokeK now (k + 1) l = (wokeK now k l).set k (if dueB now u then wakeP u else u) := by
  have hk := (List.getElem?_eq_some_iff.1 h).1
  unfold wokeK
  rw [List.take_add_one, h, List.map_append, List.set_append_right _ _ (by rw [List.length_map, List.length_take]; omega), List.length_map, List.length_take, show k - min k l.length = 0 by omega, List.drop_eq_getElem_cons hk]
  obtain rfl : l[k] = u := by rw [List.getElem?_eq_getElem hk] at h; exact Option.some.inj h
  rw [List.set_cons_zero, List.append_assoc]
  rfl
theorem wokeK_same {now : Int} {k : Nat} {l : List ProcD} {u : ProcD} (h : l[k]? = some u) (hd : dueB now u = false) : wokeK now (k + 1) l = wokeK now k l := by
  rw [wokeK_snoc h, hd]
  show (wokeK now k l).set k u = _
  have hg := wokeK_get (now := now) h
  have hk := (List.getElem?_eq_some_iff.1 hg).1
  obtain rfl : (wokeK now k l)[k] = u := by rw [List.getElem?_eq_getElem hk] at hg; exact Option.some.inj hg
  exact List.set_getElem_self hk
theorem wokeK_pids (now : Int) (k : Nat) (l : List ProcD) : pidsL (wokeK now k l) = pidsL l := by
  unfold wokeK pidsL
  rw [List.map_append, List.map_map]
  have : (l.take k).map ((fun x => x.pid) ∘ fun s => if dueB now s then wakeP s else s) = (l.take k).map (·.pid) := by
    apply List.map_congr_left
    intro s _
    show (if dueB now s then wakeP s else s).pid = s.pid
    split <;> rfl
  rw [this, ← List.map_append, List.take_append_drop]
def RTickPost (B : Nat) (w : World) (T : TabD) (n : Int) (e : Ending) (w' : World) : Prop := ∃ v x, e = .returned (.tuple #[v, x]) ∧ RTab B w' v (tickT T n) ∧ OwnsV w.heap.size w' 3 x (intsV (thoseL (dueB (afterT T.now n)) T.list)) ∧ Below w.heap.size w w'
set_option maxHeartbeats 1600000 in
theorem rtick_is {B : Nat} {w : World} {v : Value} {T : TabD} (h : RTab B w v T) (hB : B ≤ w.heap.size) (hnd : (pidsL T.list).Nodup) (n : Int) :
    Calls Try.prog 43 #[v, .int .i64 n] w (RTickPost B w T n) := by
  obtain ⟨a, c, rfl, ho, o1, o2, o3, o4, o5, o6, o7⟩ := id h
  obtain ⟨w1, w2, g0, g1, hw1, hw2, hg0, hg1, HP⟩ := bx_new w (.slice a T.list.length c) T.most T.last T.now
  have HO := Lib.hid ho
  have HOK2 : Hid (TabOk (tickT T n)) := Lib.hid ⟨o1, o2, by show 1 ≤ (T.list.map _).length; rw [List.length_map]; exact o3, by show (T.list.map _).length ≤ 16; rw [List.length_map]; exact o4, by show 0 ≤ afterT T.now n; unfold afterT; omega, by show afterT T.now n ≤ 1099511627776; unfold afterT; omega, o7⟩
  obtain ⟨NW, hNW⟩ : ∃ x, afterT T.now n = x := ⟨_, rfl⟩
  have HNW : Hid (T.now + min (max n 0) (1099511627776 - T.now) = NW) := Lib.hid hNW
  have HE : Hid (RTickPost B w T n = fun e w' => ∃ v x, e = .returned (.tuple #[v, x]) ∧ RTab B w' v { T with now := NW, list := T.list.map fun s => if dueB NW s then wakeP s else s } ∧ OwnsV w.heap.size w' 3 x (intsV (thoseL (dueB NW) T.list)) ∧ Below w.heap.size w w') := Lib.hid (by rw [← hNW]; rfl)
  have HOK3 : Hid (TabOk { T with now := NW, list := T.list.map fun s => if dueB NW s then wakeP s else s }) := Lib.hid (by rw [← hNW]; exact HOK2.out)
  rw [HE.out]
  have HND := Lib.hid hnd
  have hnow : 0 ≤ T.now ∧ T.now ≤ 1099511627776 := ⟨o5, o6⟩
  unfold rtabV
  clear h ho o1 o2 o3 o5 o6 o7 hNW HE HOK2 hnd
  obtain ⟨l, hl⟩ : ∃ l, T.list = l := ⟨_, rfl⟩
  obtain ⟨L, hL⟩ : ∃ L, l.length = L := ⟨_, rfl⟩
  have HL := Lib.hid hL
  rw [hl] at HOK3 HO HP HND hw1 o4 ⊢
  rw [hL] at HP HO hw1 o4 ⊢
  obtain ⟨M1, hM1⟩ : ∃ x, T.most = x := ⟨_, rfl⟩
  obtain ⟨M2, hM2⟩ : ∃ x, T.last = x := ⟨_, rfl⟩
  obtain ⟨M3, hM3⟩ : ∃ x, T.now = x := ⟨_, rfl⟩
  rw [hM1, hM2, hM3] at HP hw1
  rw [hM1, hM2] at HOK3
  rw [hM3] at HNW hnow
  rw [hM1, hM2, hM3]
  clear hl hL hM1 hM2 hM3
  have HO2 := Lib.hid (HO.out.below HP.out.b)
  go_enter Try.func43, Try.ntmps43
  obtain ⟨⟨t0, t1, t2, t3⟩, tf, _⟩ := HP.out.t.cells
  obtain ⟨q, hq⟩ : ∃ q, (decide (0 < n) && decide (n < 1099511627776 - M3)) = q := ⟨_, rfl⟩
  have HQ := Lib.hid hq
  have hw3 : IntKind.i64.wrap (1099511627776 - M3) = 1099511627776 - M3 := IntWalk.i64_in _ (by omega)
  go_upto_region 1 with fail
  clear hw1 hw2 hg0 hg1
  go_cut [17] (fun v17 wc => v17 = .bool q ∧ Hid (wc = w2))
  case first =>
    by_cases hn : 0 < n
    · by_cases hn2 : n < 1099511627776 - M3
      · obtain rfl : q = true := by rw [← hq]; simp [hn, hn2]
        clear hq
        go_wp2_with fail
        go_meet
        exact ⟨rfl, Lib.hid rfl⟩
      · obtain rfl : q = false := by rw [← hq]; simp [hn, hn2]
        clear hq
        go_wp2_with fail
        go_meet
        exact ⟨rfl, Lib.hid rfl⟩
    · obtain rfl : q = false := by rw [← hq]; simp [hn]
      clear hq
      go_wp2_with fail
      go_meet
      exact ⟨rfl, Lib.hid rfl⟩
  case rest =>
  obtain ⟨rfl, HWC⟩ := hcut
  obtain rfl := HWC.out
  go_upto_if 17 with fail
  go_cut [25] (fun v25 wc => Hid (Bx w wc g0 g1 (.slice a L c) M1 M2 NW) ∧ Hid (OwnsR' B wc 78 6 (.slice a L c) (procsV l)))
  case first =>
    have hnw := HNW.out
    cases q with
    | true =>
      have h2 := HQ.out
      rw [Bool.and_eq_true, decide_eq_true_iff, decide_eq_true_iff] at h2
      have hw4 : IntKind.i64.wrap (M3 + n) = NW := by rw [IntWalk.i64_in _ (by omega)]; omega
      obtain ⟨w4, hw5, HW4⟩ := HP.out.now NW
      clear hq
      go_wp2_with fail
      go_meet
      exact ⟨Lib.hid HW4.out.1, Lib.hid (HO2.out.kept HW4.out.2 (by rcases ho9 : (Value.slice a L c).ownBlock with _ | j; exact .inl rfl; right; intro e; have e9 : j = g0 := Option.some.inj e; subst e9; exact (HO2.out.apartT HP.out.t (by decide)) ho9))⟩
    | false =>
      clear hq
      by_cases hn : 0 < n
      · have hn2 : ¬ n < 1099511627776 - M3 := by
          intro h3
          have h2 := HQ.out
          simp [hn, h3] at h2
        obtain rfl : NW = 1099511627776 := by omega
        obtain ⟨w4, hw5, HW4⟩ := HP.out.now 1099511627776
        go_wp2_with fail
        go_meet
        exact ⟨Lib.hid HW4.out.1, Lib.hid (HO2.out.kept HW4.out.2 (by rcases ho9 : (Value.slice a L c).ownBlock with _ | j; exact .inl rfl; right; intro e; have e9 : j = g0 := Option.some.inj e; subst e9; exact (HO2.out.apartT HP.out.t (by decide)) ho9))⟩
      · obtain rfl : NW = M3 := by omega
        go_wp2_with fail
        go_meet
        exact ⟨HP, HO2⟩
  case rest =>
    obtain ⟨HP9, HO9⟩ := hcut
    clear HO HO2 HP t0 t1 t2 t3 tf hq hw3 HQ HWC
    clear hnow
    go_upto_block 1 with (fail)
    go_loopw [6, 7] (fun v i wr => ∃ (k : Nat) (a : Option Addr) (c : Nat), k ≤ L ∧ i = .int .i64 k ∧ Hid (Bx w wr g0 g1 (.slice a L c) M1 M2 NW) ∧ Hid (OwnsR' B wr 78 6 (.slice a L c) (procsV (wokeK NW k l))) ∧ Hid (OwnsV wc.heap.size wr 3 v (intsV (thoseL (dueB NW) (l.take k)))) ∧ Hid (wc.heap.size ≤ wr.heap.size)) (fun _ i _ => L - (intOf i).toNat)
    case atStart => exact ⟨0, a, c, Nat.zero_le _, rfl, HP9, Lib.hid (by rw [wokeK_zero]; exact HO9.out), Lib.hid (OwnsV.nil _ _ _), Lib.hid (Nat.le_refl _)⟩
    case round =>
      obtain ⟨k, ak, ck, hk, rfl, HP, HO, HV, HSZ⟩ := hrel
      have HG1 : Hid (g0 < wc.heap.size ∧ g1 < wc.heap.size) := Lib.hid ⟨HP9.out.t.cells.2.2, HP9.out.r.cells.2.2⟩
      clear HP9 HO9
      generalize ak = a at *
      generalize ck = c at *
      have hx1 : (0 : Int) ≤ (k : Int) := by omega
      obtain ⟨⟨t0, t1, t2, t3⟩, _, _⟩ := HP.out.t.cells
      by_cases hlt : k < L
      · obtain ⟨u, hrow⟩ : ∃ r, l[k]? = some r := ⟨_, List.getElem?_eq_getElem (by rw [HL.out]; exact hlt)⟩
        have HROW := Lib.hid hrow
        obtain ⟨a9, c9, e9, hr9, _, _⟩ := HO.out.reads
        rw [procsV_length, wokeK_len, HL.out] at e9
        cases e9
        have HRD := Lib.hid hr9
        obtain ⟨b, off, rfl, hb, hcc⟩ := hr9.row (procsV_get (wokeK_get hrow))
        have hfi : findI (wokeK NW k l) u.pid = (k : Int) := findI_nodup (by rw [wokeK_pids]; exact HND.out) (wokeK_get hrow)
        have HFI := Lib.hid hfi
        have hd1 := @wokeK_snoc NW k l u hrow
        have hd2 := fun h => @wokeK_same NW k l u hrow h
        have hd3 := fun h => @thoseL_yes (dueB NW) l k u hrow h
        have hd4 := fun h => @thoseL_no (dueB NW) l k u hrow h
        have hdu : dueB NW u = (decide (u.state = 2) && decide (u.til ≤ NW)) := rfl
        obtain ⟨u0, u1, u2, u3, u4, u5⟩ := u
        dsimp only at hdu
        have d0 : wr.cell? ⟨b, off + k * 6, none⟩ = some (.int .i64 u0) := hcc 0 _ rfl
        have d1 : wr.cell? ⟨b, off + k * 6 + 1, none⟩ = some (.int .i64 u1) := by have := hcc 1 _ rfl; rwa [← Nat.add_assoc] at this
        have d2 : wr.cell? ⟨b, off + k * 6 + 2, none⟩ = some (.int .i64 u2) := by have := hcc 2 _ rfl; rwa [← Nat.add_assoc] at this
        have d3 : wr.cell? ⟨b, off + k * 6 + 3, none⟩ = some (.int .i64 u3) := by have := hcc 3 _ rfl; rwa [← Nat.add_assoc] at this
        have d4 : wr.cell? ⟨b, off + k * 6 + 4, none⟩ = some (.int .i64 u4) := by have := hcc 4 _ rfl; rwa [← Nat.add_assoc] at this
        have d5 : wr.cell? ⟨b, off + k * 6 + 5, none⟩ = some (.bool u5) := by have := hcc 5 _ rfl; rwa [← Nat.add_assoc] at this
        have hx2 : (k : Int) < (L : Int) := by omega
        have HLT := Lib.hid hlt
        have hlen := thoseL_length (dueB NW) l k
        have hll := HL.out
        have HLEN : Hid ((intsV (thoseL (dueB NW) (l.take k))).length ≤ 16) := Lib.hid (by rw [intsV_length]; omega)
        obtain ⟨⟨s0, s1, s2, s3⟩, _, _⟩ := (HP.out.below (below_box wr (.cells #[.int .i64 u0, .int .i64 u1, .int .i64 u2, .int .i64 u3, .int .i64 u4, .bool u5] 78))).t.cells
        clear hcc hrow hb hlt hfi hr9 hlen hll
        by_cases hs : u2 = 2
        · have hq2 : (u2 == 2) = true := by simpa using hs
          by_cases ht : u4 ≤ NW
          · have hdt : dueB NW ⟨u0, u1, u2, u3, u4, u5⟩ = true := by rw [hdu, decide_eq_true hs, decide_eq_true ht]; rfl
            have HN1 : Hid (wokeK NW (k + 1) l = (wokeK NW k l).set k ⟨u0, u1, 1, u3, 0, u5⟩) := Lib.hid (by rw [hd1, hdt]; rfl)
            have HN2 : Hid (intsV (thoseL (dueB NW) (l.take (k + 1))) = intsV (thoseL (dueB NW) (l.take k)) ++ [.int .i64 u0]) := Lib.hid (by rw [hd3 hdt, intsV_append]; rfl)
            clear hd1 hd2 hd3 hd4 hdu hdt hs
            have kq := below_box wr (.cells #[.int .i64 u0, .int .i64 u1, .int .i64 1, .int .i64 u3, .int .i64 0, .bool u5] 78)
            have nq : BoxQ _ wr.heap.size ⟨u0, u1, 1, u3, 0, u5⟩ := heap_alloc_new wr (.cells #[.int .i64 u0, .int .i64 u1, .int .i64 1, .int .i64 u3, .int .i64 0, .bool u5] 78)
            obtain ⟨wq, hwq⟩ : ∃ x, wr.alloc (.cells #[.int .i64 u0, .int .i64 u1, .int .i64 1, .int .i64 u3, .int .i64 0, .bool u5] 78) = x := ⟨_, rfl⟩
            obtain ⟨gp, hgp⟩ : ∃ x, wr.heap.size = x := ⟨_, rfl⟩
            rw [hwq] at kq nq
            have HGP := Lib.hid hgp
            rw [hgp] at nq
            have HKQ := Lib.hid kq
            have HNQ := Lib.hid nq
            have HPQ := Lib.hid (HP.out.below kq)
            have HVQ := Lib.hid (HV.out.below kq)
            have HSQ := Lib.hid (show wc.heap.size ≤ wq.heap.size from Nat.le_trans HSZ.out kq.size)
            have HBB := Lib.hid (Nat.le_trans hB HPQ.out.b.size)
            have HPUT := Lib.hid (rput22_is (some ⟨b, off, none⟩) c (wokeK NW k l) M1 M2 NW k ⟨u0, u1, 1, u3, 0, u5⟩ ⟨u0, u1, u2, u3, u4, u5⟩ (wokeK_get HROW.out) HFI.out (by rw [wokeK_len, HL.out]; exact o4) wq (HRD.out.below kq))
            rw [wokeK_len, HL.out] at HPUT
            unfold procA procV at HPUT
            dsimp only at HPUT
            obtain ⟨⟨x0, x1, x2, x3⟩, _, _⟩ := HPQ.out.t.cells
            obtain ⟨⟨y0, y1, y2, y3, y4, y5⟩, _, _⟩ := HNQ.out.cells
            clear kq nq HRD HFI HROW
            go_wp2_with fail
            refine HPUT.out.mono ?_
            rintro e w9 ⟨gN, cN, rfl, ho, b9⟩
            have HP10 := Lib.hid (HPQ.out.below b9)
            have HN10 := Lib.hid (HNQ.out.below b9)
            have HV10 := Lib.hid (HVQ.out.below b9)
            have HO10 := Lib.hid (ho.less HBB.out)
            have HS10 := Lib.hid (Nat.le_trans HSQ.out b9.size)
            clear ho b9 s0 s1 s2 s3 x0 x1 x2 x3 y0 y1 y2 y3 y4 y5 d0 d1 d2 d3 d4 d5 t0 t1 t2 t3 hwq hgp
            obtain ⟨⟨x0, x1, x2, x3⟩, _, _⟩ := HP10.out.t.cells
            obtain ⟨xf, W10, hW10, HT⟩ := HP10.out.turn (.slice (some ⟨gN, 0, none⟩) L cN) M1 M2 NW
            have HNT := Lib.hid (HN10.out.kept HT.out.2 (by intro e; have e9 : gp = g0 := Option.some.inj e; have h1 := HGP.out; have h2 := HG1.out; have h3 := HSZ.out; omega))
            have HVT := Lib.hid (HV10.out.kept HT.out.2 (by rcases ho9 : u6.ownBlock with _ | j; exact .inl rfl; right; intro e; have e9 : j = g0 := Option.some.inj e; have h1 := (HV10.out.lt j ho9).1; have h2 := HG1.out; omega))
            have HOT := Lib.hid (HO10.out.kept HT.out.2 (.inr (by intro e; have e9 : gN = g0 := Option.some.inj e; have h9 := HO10.out.apartT HP10.out.t (by decide); exact h9 (by rw [e9]; rfl))))
            have HST := Lib.hid (show wc.heap.size ≤ W10.heap.size from Nat.le_trans HS10.out HT.out.2.size)
            have z0 := HNT.out.cells.1.1
            clear HPUT HP10 HN10 HV10 HO10 HS10 HNQ HPQ HVQ HSQ
            go_wp2_with (at_builtin; refine wpList_append_vals rfl _ _ 37 rfl wc.heap.size 3 (.int .i64 0) 8 Try.underlying37 info_int rfl _ _ rfl (HVT.out.alloc _) _ _ _ rfl _ (ReadsV.lit W10 #[.int .i64 u0] 3) (by intro y hy; simp at hy; subst hy; rfl) (by have := HLEN.out; simp; omega) (by have := HLEN.out; unfold maxLen; simp; omega) (by have h1 := HST.out; simp; omega) ?_; intro v' w11 ho hg)
            have h9 := HLT.out
            go_roundw
            case rel =>
              refine ⟨k + 1, some ⟨gN, 0, none⟩, cN, HLT.out, by go_num, Lib.hid ?_, Lib.hid ?_, Lib.hid ?_, Lib.hid ?_⟩
              · exact (HT.out.1.below (below_box _ _)).keptV ho hg (HVT.out.alloc _) HST.out HG1.out
              · rw [HN1.out]
                exact (HOT.out.below (below_box _ _)).keptI (HVT.out.alloc _) hg (by decide)
              · rw [HN2.out]
                exact ho
              · exact Nat.le_trans (Nat.le_trans HST.out (below_box W10 _).size) hg.size
            case measure => simp [intOf]; omega
          · have hdt : dueB NW ⟨u0, u1, u2, u3, u4, u5⟩ = false := by rw [hdu, decide_eq_false ht]; simp
            have HN1 : Hid (wokeK NW (k + 1) l = wokeK NW k l) := Lib.hid (hd2 hdt)
            have HN2 : Hid (intsV (thoseL (dueB NW) (l.take (k + 1))) = intsV (thoseL (dueB NW) (l.take k))) := Lib.hid (by rw [hd4 hdt])
            clear hd1 hd2 hd3 hd4 hdu hdt hs
            go_wp2
            have h9 := HLT.out
            go_roundw
            case rel =>
              refine ⟨k + 1, some ⟨b, off, none⟩, c, HLT.out, by go_num, Lib.hid (HP.out.below (below_box _ _)), Lib.hid ?_, Lib.hid ?_, Lib.hid (Nat.le_trans HSZ.out (below_box wr _).size)⟩
              · rw [HN1.out]
                exact HO.out.below (below_box _ _)
              · rw [HN2.out]
                exact HV.out.below (below_box _ _)
            case measure => simp [intOf]; omega
        · have hq2 : (u2 == 2) = false := by simpa using hs
          have hdt : dueB NW ⟨u0, u1, u2, u3, u4, u5⟩ = false := by rw [hdu, decide_eq_false hs]; rfl
          have HN1 : Hid (wokeK NW (k + 1) l = wokeK NW k l) := Lib.hid (hd2 hdt)
          have HN2 : Hid (intsV (thoseL (dueB NW) (l.take (k + 1))) = intsV (thoseL (dueB NW) (l.take k))) := Lib.hid (by rw [hd4 hdt])
          clear hd1 hd2 hd3 hd4 hdu hdt hs
          go_wp2
          have h9 := HLT.out
          go_roundw
          case rel =>
            refine ⟨k + 1, some ⟨b, off, none⟩, c, HLT.out, by go_num, Lib.hid (HP.out.below (below_box _ _)), Lib.hid ?_, Lib.hid ?_, Lib.hid (Nat.le_trans HSZ.out (below_box wr _).size)⟩
            · rw [HN1.out]
              exact HO.out.below (below_box _ _)
            · rw [HN2.out]
              exact HV.out.below (below_box _ _)
          case measure => simp [intOf]; omega
      · obtain rfl : k = L := by omega
        have hx2 : ¬ (k : Int) < (k : Int) := by omega
        have ho := HO.out
        have hv := HV.out
        rw [show wokeK NW k l = l.map (fun s => if dueB NW s then wakeP s else s) by rw [← HL.out, wokeK_all]] at ho
        rw [show l.take k = l by rw [← HL.out, List.take_length]] at hv
        have HO9 := Lib.hid ho
        have HV9 := Lib.hid hv
        clear hlt ho hv
        obtain ⟨⟨r0, r1, r2, r3⟩, rf, W', hW', HF⟩ := HP.out.fin (.slice a k c) M1 M2 NW
        go_wp2
        obtain ⟨av, cv, hv9, _, _, _⟩ := HV9.out.reads
        refine bodyPost_ret (results_rt2 rfl _ _ g1 rfl HF.out.1) rfl ⟨_, _, rfl, ⟨a, c, ?_, ?_, HOK3.out⟩, ?_, HF.out.2.1⟩
        · unfold rtabV
          show _ = Value.agg #[.slice _ (l.map _).length c, .int .i64 M1, .int .i64 M2, .int .i64 NW]
          rw [List.length_map, HL.out]
        · show OwnsR' B W' _ 6 (.slice _ (l.map _).length c) _
          rw [List.length_map, HL.out]
          exact HO9.out.kept HF.out.2.2 (by rcases ho9 : (Value.slice a k c).ownBlock with _ | j; exact .inl rfl; right; intro e; have e9 : j = g1 := Option.some.inj e; subst e9; exact (HO9.out.apartT HP.out.r (by decide)) ho9)
        · refine (HV9.out.kept HF.out.2.2 ?_).less (Nat.le_trans HP.out.g.1 (by have := HG1.out; omega))
          rcases ho9 : u6.ownBlock with _ | j
          · exact .inl rfl
          · right
            intro e
            have e9 : j = g1 := Option.some.inj e
            have h1 := (HV9.out.lt j ho9).1
            have h2 := HG1.out
            omega
end Go.Proofs.Ytnengblmcfiajaa
