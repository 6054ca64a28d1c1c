/- The law's acts on processes: Do, the time goes on; and Do of any act. -/
import Derived.Test.YtnengblmcfiajaaGgjbchmgc
namespace Go.Proofs.Ytnengblmcfiajaa
open Go.RowKit Go.Sort
set_option linter.unusedVariables false
set_option linter.unusedSimpArgs false
set_option maxRecDepth 100000

def BoolEnd (e : Ending) : Prop := ∃ q, e = .returned (.bool q)
set_option maxHeartbeats 1600000 in
theorem ints22_other (l l2 : List Int) (hne : l ≠ l2) (a b : Option Addr) (c d : Nat) (w : World) (ha : ReadsV w a l.length (intsV l)) (hb : ReadsV w b l2.length (intsV l2)) (hl : l.length ≤ 1000) (hl2 : l2.length ≤ 1000) :
    Calls Try.prog 44 #[.slice a l.length c, .slice b l2.length d] w fun e w' => BoolEnd e ∧ Below w.heap.size w w' := by
  have HA := Lib.hid ha
  have HB := Lib.hid hb
  obtain ⟨L, hL⟩ : ∃ L, l.length = L := ⟨_, rfl⟩
  obtain ⟨L2, hL2⟩ : ∃ L, l2.length = L := ⟨_, rfl⟩
  have HL := Lib.hid hL
  have HL2 := Lib.hid hL2
  rw [hL] at HA hl ⊢
  rw [hL2] at HB hl2 ⊢
  clear ha hb hL hL2 hne
  by_cases hq : L = L2
  · subst hq
    go_enter Try.func44, Try.ntmps44
    go_wp2
    go_loopw [13] (fun i wr => ∃ k : Nat, k ≤ L ∧ i = .int .i64 k ∧ Hid (Below w.heap.size w wr)) (fun i _ => L - (intOf i).toNat)
    case atStart => exact ⟨0, Nat.zero_le _, rfl, Lib.hid (Below.refl _ _)⟩
    case round =>
      obtain ⟨k, hk, rfl, HW⟩ := hrel
      have hx1 : (0 : Int) ≤ (k : Int) := by omega
      by_cases hlt : k < L
      · obtain ⟨x, hx⟩ : ∃ x, l[k]? = some x := ⟨_, List.getElem?_eq_getElem (by rw [HL.out]; exact hlt)⟩
        obtain ⟨y, hy⟩ : ∃ x, l2[k]? = some x := ⟨_, List.getElem?_eq_getElem (by rw [HL2.out]; exact hlt)⟩
        have ca := HA.out
        have cb := HB.out
        obtain ⟨_, e | ⟨p, off, rfl, hp, hc⟩⟩ := ca
        · have : (intsV l).length = 0 := by rw [e]; rfl
          rw [intsV_length, HL.out] at this
          omega
        obtain ⟨_, e | ⟨p2, off2, rfl, hp2, hc2⟩⟩ := cb
        · have : (intsV l2).length = 0 := by rw [e]; rfl
          rw [intsV_length, HL2.out] at this
          omega
        have d0 := ((HW.out.cell (p := ⟨p, off + k, none⟩) hp).trans (hc k _ (ints_get hx)))
        have d1 := ((HW.out.cell (p := ⟨p2, off2 + k, none⟩) hp2).trans (hc2 k _ (ints_get hy)))
        have hx2 : (k : Int) < (L : Int) := by omega
        have HLT := Lib.hid hlt
        clear hc hc2 hp hp2 hx hy hlt
        by_cases hxy : x = y
        · have hq : (x != y) = false := by simpa using hxy
          clear hxy
          go_wp2
          go_quiet (fail)
          go_wp2
          have h9 := HLT.out
          go_roundw
          case rel => exact ⟨k + 1, HLT.out, by go_num, Lib.hid (below_next HW.out (below_drewN _ _))⟩
          case measure => simp [intOf]; omega
        · have hq : (x != y) = true := by simpa using hxy
          clear hxy
          go_wp2
          go_quiet (fail)
          go_wp2
          go_ret
          exact ⟨⟨_, rfl⟩, below_next HW.out (below_drewN _ _)⟩
      · obtain rfl : k = L := by omega
        have hx2 : ¬ (k : Int) < (k : Int) := by omega
        clear hlt
        go_wp2
        go_ret
        exact ⟨⟨_, rfl⟩, HW.out⟩
  · have hq2 : ((L : Int) != (L2 : Int)) = true := by simp; omega
    clear hq
    go_enter Try.func44, Try.ntmps44
    go_wp2
    go_ret
    exact ⟨⟨_, rfl⟩, Below.refl _ _⟩
theorem ints22_any (l l2 : List Int) (a b : Option Addr) (c d : Nat) (w : World) (ha : ReadsV w a l.length (intsV l)) (hb : ReadsV w b l2.length (intsV l2)) (hl : l.length ≤ 1000) (hl2 : l2.length ≤ 1000) :
    Calls Try.prog 44 #[.slice a l.length c, .slice b l2.length d] w fun e w' => ∃ q, e = .returned (.bool q) ∧ (l = l2 → q = true) ∧ Below w.heap.size w w' := by
  by_cases h : l = l2
  · subst h
    refine (ints22_is l a b c d w ha hb hl).mono ?_
    rintro e w' ⟨rfl, b1⟩
    exact ⟨true, rfl, fun _ => rfl, b1⟩
  · refine (ints22_other l l2 h a b c d w ha hb hl hl2).mono ?_
    rintro e w' ⟨⟨q, rfl⟩, b1⟩
    exact ⟨q, rfl, fun e => absurd e h, b1⟩
theorem due_len (p : ProcD → Bool) {T : TabD} (h : T.list.length ≤ 16) : (thoseL p T.list).length ≤ 1000 := by
  unfold thoseL
  rw [List.length_map]
  exact Nat.le_trans (List.length_filter_le _ _) (by omega)
set_option maxHeartbeats 1600000 in
theorem do22_t {B : Nat} {w : World} {g gs cap : Nat} {v0 : Value} {T1 T2 : TabD} (h1 : IsTable B w g gs cap T1) (h2 : RTab B w v0 T2) (hB : B ≤ w.heap.size) (hI1 : TrInv T1) (hI2 : TrInv T2) (kd x y : Int) (k0 : kd ≠ 0) (k1 : kd ≠ 1) (k2 : kd ≠ 2) (k3 : kd ≠ 3) (k4 : kd ≠ 4) :
    Calls Try.prog 10 #[.pointer (some ⟨g, 0, none⟩), v0, .agg #[.int .i64 kd, .int .i64 x, .int .i64 y]] w (Do22Post B w g gs T1 T2 (doF T1 kd x y) (doF T2 kd x y)) := by
  have HD1 : Hid (doF T1 kd x y = tickT T1 y) := Lib.hid (by unfold doF; rw [if_neg k0, if_neg k1, if_neg k2, if_neg k3, if_neg k4])
  have HD2 : Hid (doF T2 kd x y = tickT T2 y) := Lib.hid (by unfold doF; rw [if_neg k0, if_neg k1, if_neg k2, if_neg k3, if_neg k4])
  rw [HD1.out, HD2.out]
  have q0 : (kd == 0) = false := by simpa using k0
  have q1 : (kd == 1) = false := by simpa using k1
  have q2 : (kd == 2) = false := by simpa using k2
  have q3 : (kd == 3) = false := by simpa using k3
  have q4 : (kd == 4) = false := by simpa using k4
  obtain ⟨a, c, rfl, ho, hok⟩ := id h2
  obtain ⟨v0, hv0⟩ : ∃ v, rtabV a T2.list.length c T2 = v := ⟨_, rfl⟩
  obtain ⟨w1, w2, w3, g0, g1, g2, hw1, hw2, hw3, hg0, hg1, hg2, HBX⟩ := doBx_new w (.slice a T2.list.length c) T2.most T2.last T2.now kd x y
  have H1 : Hid (IsTable B w3 g gs cap T1) := Lib.hid (h1.below HBX.out.2)
  have H2 : Hid (RTab B w v0 T2) := Lib.hid (by rw [← hv0]; exact h2)
  have HG : Hid (g < w.heap.size ∧ gs < w.heap.size) := Lib.hid ⟨(table_lt h1).1, (table_lt h1).2.1⟩
  have HBW := Lib.hid hB
  have HP := Lib.hid (ttick_is H1.out hI1.nodup y)
  have HQ := Lib.hid (fun (W : World) (HR4 : Hid (RTab B W (rtabV a T2.list.length c T2) T2)) (hB4 : B ≤ W.heap.size) => rtick_is HR4.out hB4 hI2.nodup y)
  have HLN := Lib.hid (And.intro (due_len (dueB (afterT T1.now y)) h1.2.2.2.2.2.2.1) (due_len (dueB (afterT T2.now y)) hok.2.2.2.1))
  have HEQ : Hid (T1 = T2 → thoseL (dueB (afterT T1.now y)) T1.list = thoseL (dueB (afterT T2.now y)) T2.list) := Lib.hid (by intro e; rw [e])
  unfold rtabV at HQ
  clear h1 h2 ho hok hB hI1 hI2 k0 k1 k2 k3 k4
  show Calls Try.prog 10 #[.pointer (some ⟨g, 0, none⟩), .agg #[.slice a T2.list.length c, .int .i64 T2.most, .int .i64 T2.last, .int .i64 T2.now], .agg #[.int .i64 kd, .int .i64 x, .int .i64 y]] w _
  go_enter Try.func10, Try.ntmps10
  obtain ⟨⟨t0, t1, t2, t3⟩, _, _⟩ := HBX.out.1.t.cells
  obtain ⟨c0, c1, c2⟩ := act_cells HBX.out.1.q
  go_wp2_with fail
  refine HP.out.mono ?_
  rintro e w4 ⟨v4, rfl, o4, h4, k4⟩
  have HB4 := Lib.hid (HBX.out.1.told k4 HG.out.1 HG.out.2)
  have HR4 : Hid (RTab B w4 (rtabV a T2.list.length c T2) T2) := Lib.hid ((((by rw [hv0]; exact H2.out : RTab B w (rtabV a T2.list.length c T2) T2)).below HBX.out.2).keptTK H1.out k4)
  have HT4 := Lib.hid (And.intro h4 ((TKeeps.of_below HBX.out.2).trans k4))
  have hB4 : B ≤ w4.heap.size := Nat.le_trans HBW.out (Nat.le_trans HBX.out.2.size k4.size)
  have HQ4 := Lib.hid (HQ.out w4 HR4 hB4)
  obtain ⟨a4, c4, rfl, _, _, _⟩ := o4.reads
  have HO4 := Lib.hid o4
  clear t0 t1 t2 t3 c0 c1 c2 h4 k4 o4 HQ hw1 hw2 hw3 hg0 hg1 hg2 hB4
  obtain ⟨⟨t0, t1, t2, t3⟩, _, _⟩ := HB4.out.t.cells
  obtain ⟨c0, c1, c2⟩ := act_cells HB4.out.q
  go_wp2_with fail
  refine HQ4.out.mono ?_
  rintro e w5 ⟨v5, x5, rfl, hr5, o5, b5⟩
  obtain ⟨S2, hS2⟩ : ∃ S, tickT T2 y = S := ⟨_, rfl⟩
  rw [hS2] at hr5
  have HS2 := Lib.hid hS2
  obtain ⟨a5, c5, rfl, ho5, ok5⟩ := hr5
  obtain ⟨a6, c6, rfl, _, _, _⟩ := o5.reads
  have HR5 := Lib.hid (show RTab B w5 (rtabV a5 S2.list.length c5 S2) S2 from ⟨a5, c5, rfl, ho5, ok5⟩)
  unfold rtabV
  have kx := below_box w5 (.cells #[.slice a5 S2.list.length c5, .int .i64 S2.most, .int .i64 S2.last, .int .i64 S2.now] 28)
  have nx : BoxR _ w5.heap.size _ _ _ _ := heap_alloc_new w5 (.cells #[.slice a5 S2.list.length c5, .int .i64 S2.most, .int .i64 S2.last, .int .i64 S2.now] 28)
  obtain ⟨w6, hw6⟩ : ∃ X, w5.alloc (.cells #[.slice a5 S2.list.length c5, .int .i64 S2.most, .int .i64 S2.last, .int .i64 S2.now] 28) = X := ⟨_, rfl⟩
  obtain ⟨gx, hgx⟩ : ∃ X, w5.heap.size = X := ⟨_, rfl⟩
  rw [hw6] at kx nx
  rw [hgx] at nx
  have HB6 := Lib.hid ((HB4.out.below b5).below kx)
  have HK6 := Lib.hid (below_next b5 kx)
  have HR6 := Lib.hid (HR5.out.below kx)
  have HNX := Lib.hid nx
  have HO4' := Lib.hid ((HO4.out.below b5).below kx)
  have HO5' := Lib.hid (o5.below kx)
  have HGX : Hid (g2 < gx) := Lib.hid (by rw [← hgx]; exact Nat.lt_of_lt_of_le HB4.out.r.cells.2.2 b5.size)
  clear t0 t1 t2 t3 c0 c1 c2 b5 kx nx ho5 ok5 HQ4 hS2 o5
  have HI := Lib.hid (by
    have e4 := HO4'.out.below (below_drew w6)
    have e5 := HO5'.out.below (below_drew w6)
    obtain ⟨a7, c7, e7, r7, _, _⟩ := e4.reads
    obtain ⟨a8, c8, e8, r8, _, _⟩ := e5.reads
    cases e7
    cases e8
    rw [intsV_length] at r7 r8
    exact ints22_any _ _ a4 a6 c4 c6 w6.drew r7 r8 HLN.out.1 HLN.out.2)
  rw [intsV_length, intsV_length]
  obtain ⟨⟨z0, z1, z2, z3⟩, _, _⟩ := HNX.out.cells
  go_upto_region 24 with fail
  have eB := below_drew w6
  have HS0 := Lib.hid (And.intro z0 (And.intro z1 (And.intro z2 z3)))
  have HSX := Lib.hid (fun (W : World) (k : Below w6.heap.size w6 W) => (HNX.out.below k).cells.1)
  have HFN := Lib.hid (fun (W : World) (k : Below w6.heap.size w6 W) => (HB6.out.below k).fin (.slice a5 S2.list.length c5) S2.most S2.last S2.now)
  have HKP := Lib.hid (fun (W W' : World) (k : Below w6.heap.size w6 W) (hg : W.grownBy W' (some g2)) => ((HNX.out.below k).kept hg (by intro e; have e9 : gx = g2 := Option.some.inj e; have := HGX.out; omega)).cells.1)
  try rw [hw6]
  clear hw6
  go_region_held3 (fun W => W.cell? ⟨gx, 0, none⟩ = some (.slice a5 S2.list.length c5) ∧ W.cell? ⟨gx, 1, none⟩ = some (.int .i64 S2.most) ∧ W.cell? ⟨gx, 2, none⟩ = some (.int .i64 S2.last) ∧ W.cell? ⟨gx, 3, none⟩ = some (.int .i64 S2.now)) (first | assumption | exact HSX.out _ (Below.refl _ _) | exact HSX.out _ (below_drew _) | exact HSX.out _ bC | exact HKP.out _ _ bC HF.out.2)
    ((go_at_call 44; (with_reducible refine HI.out.mono ?_); rintro e wi ⟨z, rfl, hz, bi⟩; have bC := below_next eB bi; obtain ⟨⟨r0, r1, r2, r3⟩, rf, W', hW', HF⟩ := HFN.out wi bC; have HZ := Lib.hid hz; clear hz))
  all_goals
    go_wp2
    refine bodyPost_ret (results_rt2 rfl _ _ g2 rfl HF.out.1) rfl ?_
    rw [HS2.out]
    exact do22_fin HT4.out.1 HT4.out.2 (below_next HK6.out bC) (HR6.out.below bC) HF.out.2 (HB6.out.below bC).r (by have := HB6.out.g; omega) (fun e => HZ.out (HEQ.out e))
theorem do22_any {B : Nat} {w : World} {g gs cap : Nat} {v0 : Value} {T1 T2 : TabD} (h1 : IsTable B w g gs cap T1) (h2 : RTab B w v0 T2) (hB : B ≤ w.heap.size) (hI1 : TrInv T1) (hI2 : TrInv T2) (hl1 : T1.last < 1000000) (hl2 : T2.last < 1000000) (kd x y : Int) :
    Calls Try.prog 10 #[.pointer (some ⟨g, 0, none⟩), v0, .agg #[.int .i64 kd, .int .i64 x, .int .i64 y]] w (Do22Post B w g gs T1 T2 (doF T1 kd x y) (doF T2 kd x y)) := by
  by_cases k0 : kd = 0
  · subst k0; exact do22_0 h1 h2 hB hI1 hI2 hl1 hl2 x y
  by_cases k1 : kd = 1
  · subst k1; exact do22_1 h1 h2 hB hI1 hI2 hl1 hl2 x y
  by_cases k2 : kd = 2
  · subst k2; exact do22_2 h1 h2 hB hI1 hI2 hl1 hl2 x y
  by_cases k3 : kd = 3
  · subst k3; exact do22_3 h1 h2 hB hI1 hI2 hl1 hl2 x y
  by_cases k4 : kd = 4
  · subst k4; exact do22_4 h1 h2 hB hI1 hI2 hl1 hl2 x y
  exact do22_t h1 h2 hB hI1 hI2 kd x y k0 k1 k2 k3 k4
end Go.Proofs.Ytnengblmcfiajaa
