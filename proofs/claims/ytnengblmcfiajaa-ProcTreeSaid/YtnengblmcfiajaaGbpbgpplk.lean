/- The document's table of processes: Fork. (Printed by wip/gen/rtr6.py.) -/
import Derived.Test.YtnengblmcfiajaaGjpgolngo
import Derived.Test.YtnengblmcfiajaaStepRow
import Derived.Test.YtnengblmcfiajaaLast
namespace Go.Proofs.Ytnengblmcfiajaa
open Go.RowKit Go.Sort
set_option linter.unusedVariables false
set_option linter.unusedSimpArgs false
set_option maxRecDepth 100000

theorem CopyPre.last {w W : World} {g0 g1 : Nat} {v : Value} {m la no : Int} {a : Option Addr} {l : List ProcD} (h : CopyPre w W g0 g1 v m la no a l) (hr : ReadsR w a 6 (procsV l)) (x : Int) :
    ∃ W4, W.setCell ⟨g0, 2, none⟩ (.int .i64 x) = W4 ∧ Hid (CopyPre w W4 g0 g1 v m x no a l) := by
  have h3 := heap_setCell_same _ g0 2 _ _ (.int .i64 x) h.bx.t
  have k := grown_setCellT W ⟨g0, 2, none⟩ (.int .i64 x)
  have hg := h.bx.g
  have bb := h.bx.b.grown k h.bx.b.size (by intro j hj; obtain rfl := Option.some.inj hj; exact hg.1)
  exact ⟨_, rfl, Lib.hid ⟨⟨h3, h.bx.r.kept k (by intro e; have e9 : g1 = g0 := Option.some.inj e; omega), bb, hg⟩, hr.below bb⟩⟩
theorem CopyPre.grow {w W : World} {g0 g1 L : Nat} {v v8 : Value} {m la no : Int} {a : Option Addr} {l : List ProcD} (h : CopyPre w W g0 g1 v m la no a l) (hL : l.length = L) (x n : Int)
    (o : OwnsR' w.heap.size W 78 6 v8 (procsV l ++ [[.int .i64 x, .int .i64 n, .int .i64 1, .int .i64 0, .int .i64 0, .bool false]])) :
    ∃ gN cN W9, v8 = .slice (some ⟨gN, 0, none⟩) (L + 1) cN ∧ W.setCell ⟨g0, 0, none⟩ (.slice (some ⟨gN, 0, none⟩) (L + 1) cN) = W9 ∧ (W.cell? ⟨g0, 0, none⟩ = some v ∧ W.frozen? ⟨g0, 0, none⟩ = false) ∧
      Hid (Bx w W9 g0 g1 (.slice (some ⟨gN, 0, none⟩) (L + 1) cN) m la no ∧ OwnsR' w.heap.size W9 78 6 (.slice (some ⟨gN, 0, none⟩) (L + 1) cN) (procsV (l ++ [⟨x, n, 1, 0, 0, false⟩]))) := by
  have e : procsV l ++ [[.int .i64 x, .int .i64 n, .int .i64 1, .int .i64 0, .int .i64 0, .bool false]] = procsV (l ++ [⟨x, n, 1, 0, 0, false⟩]) := by unfold procsV; rw [List.map_append]; rfl
  rw [e] at o
  obtain ⟨gN, cN, hv⟩ := own_formT o (by rw [procsV_length, List.length_append]; simp)
  rw [procsV_length, List.length_append, List.length_singleton, hL] at hv
  subst hv
  have h3 := heap_setCell_same _ g0 0 _ _ (.slice (some ⟨gN, 0, none⟩) (L + 1) cN) h.bx.t
  have k := grown_setCellT W ⟨g0, 0, none⟩ (.slice (some ⟨gN, 0, none⟩) (L + 1) cN)
  have hg := h.bx.g
  refine ⟨gN, cN, _, rfl, rfl, ⟨h.bx.t.cells.1.1, h.bx.t.cells.2.1 0⟩, Lib.hid ⟨⟨h3, h.bx.r.kept k (by intro e; have e9 : g1 = g0 := Option.some.inj e; omega), h.bx.b.grown k h.bx.b.size (by intro j hj; obtain rfl := Option.some.inj hj; exact hg.1), hg⟩, o.kept k (.inr (by intro e; have e9 : gN = g0 := Option.some.inj e; have h9 := o.apartT h.bx.t (by decide); exact h9 (by rw [e9]; rfl)))⟩⟩
theorem babyC_one (x n : Int) : ∀ u ∈ [Value.int .i64 x, .int .i64 n, .int .i64 1, .int .i64 0, .int .i64 0, .bool false], u.oneCell' = true := by
  intro u hu
  simp only [List.mem_cons, List.not_mem_nil, or_false] at hu
  rcases hu with rfl | rfl | rfl | rfl | rfl | rfl <;> rfl
set_option maxHeartbeats 1600000 in
theorem rfork_is {B : Nat} {w : World} {v : Value} {T : TabD} (h : RTab B w v T) (hB : B ≤ w.heap.size) (hlen : (T.list.length : Int) ≤ T.most) (hlast : T.last < 1000000) (n : Int) :
    Calls Try.prog 35 #[v, .int .i64 n] w (RPost22 B w (forkF T n).1 [.int .i64 (forkF T n).2.1, .int .i64 (forkF T n).2.2]) := by
  have H := Lib.hid h
  obtain ⟨a, c, rfl, hr, hc, o1, o2, o3, o4, o5, o6, o7⟩ := h.reads
  obtain ⟨w1, w2, g0, g1, hw1, hw2, hg0, hg1, HP⟩ := bx_new w (.slice a T.list.length c) T.most T.last T.now
  have HR := Lib.hid hr
  have HLV := Lib.hid (fun (W : World) (hW : Below w.heap.size w W) => rlive_is (H.out.below hW) n)
  have HOK := Lib.hid (show TabOk T from ⟨o1, o2, o3, o4, o5, o6, o7⟩)
  unfold forkF
  rcases gone_cases T n with ⟨e, _⟩ | ⟨e, i, s, hf, hs, hp⟩
  · rw [if_pos e]
    simp only [e, if_true] at HLV
    unfold rtabV at H HLV ⊢
    clear e h hr hc o1 o2 o3 o4 o5 o6 o7 HR hlen hlast
    go_enter Try.func35, Try.ntmps35
    obtain ⟨⟨t0, t1, t2, t3⟩, _, _⟩ := HP.out.t.cells
    go_wp2_with fail
    refine (HLV.out w2 HP.out.b).mono ?_
    rintro e w3 ⟨rfl, b3⟩
    have HP3 := Lib.hid (HP.out.below b3)
    clear t0 t1 t2 t3 b3
    obtain ⟨⟨t0, t1, t2, t3⟩, _, _⟩ := HP3.out.t.cells
    obtain ⟨⟨r0, r1, r2, r3⟩, rf, W', hW', HF⟩ := HP3.out.fin (.slice a T.list.length c) T.most T.last T.now
    go_wp2
    exact bodyPost_ret (results_rt3 rfl _ _ g1 rfl HF.out.1) rfl ⟨_, rfl, H.out.below HF.out.2.1, HF.out.2.1⟩
  · rw [if_neg (by rw [e]; decide)]
    simp only [e, Bool.false_eq_true, if_false] at HLV
    by_cases hfull : T.most ≤ (T.list.length : Int)
    · rw [if_pos hfull]
      have hq : ((T.list.length : Int) == T.most) = true := by rw [beq_iff_eq]; omega
      unfold rtabV at H HLV ⊢
      clear e h hr hc o1 o2 o3 o4 o5 o6 o7 HR hlen hlast hfull
      go_enter Try.func35, Try.ntmps35
      obtain ⟨⟨t0, t1, t2, t3⟩, _, _⟩ := HP.out.t.cells
      go_wp2_with fail
      refine (HLV.out w2 HP.out.b).mono ?_
      rintro e w3 ⟨rfl, b3⟩
      have HP3 := Lib.hid (HP.out.below b3)
      clear t0 t1 t2 t3 b3
      obtain ⟨⟨t0, t1, t2, t3⟩, _, _⟩ := HP3.out.t.cells
      obtain ⟨⟨r0, r1, r2, r3⟩, rf, W', hW', HF⟩ := HP3.out.fin (.slice a T.list.length c) T.most T.last T.now
      go_wp2
      exact bodyPost_ret (results_rt3 rfl _ _ g1 rfl HF.out.1) rfl ⟨_, rfl, H.out.below HF.out.2.1, HF.out.2.1⟩
    · rw [if_neg hfull]
      have hq : ((T.list.length : Int) == T.most) = false := by rw [beq_eq_false_iff_ne]; omega
      have HOK2 : Hid (TabOk { T with last := T.last + 1, list := T.list ++ [⟨T.last + 1, n, 1, 0, 0, false⟩] }) := Lib.hid ⟨o1, o2, by show 1 ≤ (T.list ++ _).length; rw [List.length_append]; omega, by show (T.list ++ _).length ≤ 16; rw [List.length_append, List.length_singleton]; omega, o5, o6, show 0 ≤ T.last + 1 by omega⟩
      have hwr : IntKind.i64.wrap (T.last + 1) = T.last + 1 := IntWalk.i64_in _ (by omega)
      unfold rtabV at HLV ⊢
      clear e h hr hc o1 o2 o3 o5 o6 o7 hf hs hp hlen hlast hfull
      obtain ⟨l, hl⟩ : ∃ l, T.list = l := ⟨_, rfl⟩
      obtain ⟨L, hL⟩ : ∃ L, l.length = L := ⟨_, rfl⟩
      have HL := Lib.hid hL
      rw [hl] at HOK2 HR HP HLV hw1 o4 hq ⊢
      rw [hL] at HP HLV hw1 o4 hq ⊢
      obtain ⟨M4, hM4⟩ : ∃ x, T.last + 1 = x := ⟨_, rfl⟩
      rw [hM4] at HOK2 hwr ⊢
      obtain ⟨M1, hM1⟩ : ∃ x, T.most = x := ⟨_, rfl⟩
      obtain ⟨M2, hM2⟩ : ∃ x, T.last = x := ⟨_, rfl⟩
      obtain ⟨M3, hM3⟩ : ∃ x, T.now = x := ⟨_, rfl⟩
      rw [hM1, hM2, hM3] at HP HLV hw1
      rw [hM1] at hq HOK2
      have hwr2 : IntKind.i64.wrap (M2 + 1) = M4 := by rw [← hM2, hM4]; exact hwr
      rw [hM3] at HOK2
      have HLQ : Hid ((procsV l).length = L) := Lib.hid (by rw [procsV_length]; exact hL)
      rw [hM1, hM2, hM3]
      dsimp only
      clear hwr
      clear hl hL hM1 hM2 hM3 hM4 H HOK
      go_enter Try.func35, Try.ntmps35
      obtain ⟨⟨t0, t1, t2, t3⟩, _, _⟩ := HP.out.t.cells
      go_wp2_with fail
      refine (HLV.out w2 HP.out.b).mono ?_
      rintro e w3 ⟨rfl, b3⟩
      have HP3 : Hid (CopyPre w w3 g0 g1 (.slice a L c) M1 M2 M3 a l) := Lib.hid ⟨HP.out.below b3, HR.out.below (below_next HP.out.b b3)⟩
      clear t0 t1 t2 t3 b3 HP HLV hw1 hw2 hg0 hg1
      obtain ⟨⟨t0, t1, t2, t3⟩, tf, _⟩ := HP3.out.bx.t.cells
      obtain ⟨w4, hw4, HP4⟩ := HP3.out.last HR.out M4
      go_upto_region 7 with fail
      clear hw4 hq t0 t1 t2 t3 tf hwr2
      go_cut [26] (fun v26 wc => ∃ gN cN, Hid (Bx w wc g0 g1 (.slice (some ⟨gN, 0, none⟩) (L + 1) cN) M1 M4 M3 ∧ OwnsR' w.heap.size wc 78 6 (.slice (some ⟨gN, 0, none⟩) (L + 1) cN) (procsV (l ++ [⟨M4, n, 1, 0, 0, false⟩]))))
      case first =>
        have HP5 := Lib.hid (HP4.out.below (below_drew w4))
        refine wp_region_last (S := fun W => W.cell? ⟨g0, 0, none⟩ = some (.slice a L c) ∧ W.cell? ⟨g0, 1, none⟩ = some (.int .i64 M1) ∧ W.cell? ⟨g0, 2, none⟩ = some (.int .i64 M4) ∧ W.cell? ⟨g0, 3, none⟩ = some (.int .i64 M3)) (n := 11) (by kernel_rfl) ?_ (fun hHeld => ?_)
        · exact HP5.out.bx.t.cells.1
        generalize w4.drew = x2 at *
        obtain ⟨B', hB'⟩ : ∃ x, x2.heap.size = x := ⟨_, rfl⟩
        have HB2 := Lib.hid hB'
        have HSB := Lib.hid (fun (W : World) (k : Below x2.heap.size x2 W) => (HP5.out.below k).bx.t.cells.1)
        have HRD := Lib.hid (fun (W : World) (k : Below x2.heap.size x2 W) => (HP5.out.below k).rd)
        have HEND := Lib.hid (fun (v8 : Value) (W : World) (k : Below x2.heap.size x2 W) (o : OwnsR' x2.heap.size W 78 6 v8 (procsV l ++ [[.int .i64 M4, .int .i64 n, .int .i64 1, .int .i64 0, .int .i64 0, .bool false]])) => (HP5.out.below k).grow HL.out M4 n (o.less (HP5.out.bx.b.size)))
        rw [hB'] at HSB HRD HEND
        clear hB' HP4 HP5 HP3
        refine wpAnyE_take (i := 1) (v := .pointer (some ⟨g0, 0, none⟩)) rfl (by kernel_rfl) (by decide) (by kernel_rfl) (by kernel_rfl) (by kernel_rfl) (fun _ _ _ h => h) (Or.inl ⟨by rfl, by intro W hSw; obtain ⟨q0, q1, q2, q3⟩ := hSw; go_simp⟩) (by assumption) ?_
        try simp only [List.getElem_toArray, List.getElem_cons_zero, List.getElem_cons_succ, Act.put, List.setIfInBounds_toArray, List.set_cons_zero, List.set_cons_succ]
        refine wpAnyE_take (i := 2) (v := .slice a L c) rfl (by kernel_rfl) (by decide) (by kernel_rfl) (by kernel_rfl) (by kernel_rfl) (fun _ _ _ h => h) (Or.inl ⟨by rfl, by intro W hSw; obtain ⟨q0, q1, q2, q3⟩ := hSw; go_simp⟩) (by assumption) ?_
        try simp only [List.getElem_toArray, List.getElem_cons_zero, List.getElem_cons_succ, Act.put, List.setIfInBounds_toArray, List.set_cons_zero, List.set_cons_succ]
        refine wpAnyE_take (i := 4) (v := .pointer (some ⟨g0, 2, none⟩)) rfl (by kernel_rfl) (by decide) (by kernel_rfl) (by kernel_rfl) (by kernel_rfl) (fun _ _ _ h => h) (Or.inl ⟨by rfl, by intro W hSw; obtain ⟨q0, q1, q2, q3⟩ := hSw; go_simp⟩) (by assumption) ?_
        try simp only [List.getElem_toArray, List.getElem_cons_zero, List.getElem_cons_succ, Act.put, List.setIfInBounds_toArray, List.set_cons_zero, List.set_cons_succ]
        refine wpAnyE_take (i := 5) (v := .int .i64 M4) rfl (by kernel_rfl) (by decide) (by kernel_rfl) (by kernel_rfl) (by kernel_rfl) (fun _ _ _ h => h) (Or.inl ⟨by rfl, by intro W hSw; obtain ⟨q0, q1, q2, q3⟩ := hSw; go_simp⟩) (by assumption) ?_
        try simp only [List.getElem_toArray, List.getElem_cons_zero, List.getElem_cons_succ, Act.put, List.setIfInBounds_toArray, List.set_cons_zero, List.set_cons_succ]
        refine wpAnyE_take (i := 6) (v := .int .i64 n) rfl (by kernel_rfl) (by decide) (by kernel_rfl) (by kernel_rfl) (by kernel_rfl) (fun _ _ _ h => h) (Or.inl ⟨by rfl, by intro W hSw; obtain ⟨q0, q1, q2, q3⟩ := hSw; go_simp⟩) (by assumption) ?_
        try simp only [List.getElem_toArray, List.getElem_cons_zero, List.getElem_cons_succ, Act.put, List.setIfInBounds_toArray, List.set_cons_zero, List.set_cons_succ]
        refine wpAnyE_take (i := 7) (v := .agg #[.int .i64 M4, .int .i64 n, .int .i64 1, .int .i64 0, .int .i64 0, .bool false]) rfl (by kernel_rfl) (by decide) (by kernel_rfl) (by kernel_rfl) (by kernel_rfl) (fun _ _ _ h => h) (Or.inl ⟨by rfl, by intro W hSw; obtain ⟨q0, q1, q2, q3⟩ := hSw; go_simp⟩) (by assumption) ?_
        try simp only [List.getElem_toArray, List.getElem_cons_zero, List.getElem_cons_succ, Act.put, List.setIfInBounds_toArray, List.set_cons_zero, List.set_cons_succ]
        have b2 : Below B' x2 x2 := Below.refl _ _
        have l2 : B' ≤ x2.heap.size := Nat.le_of_eq HB2.out.symm
        refine wpAnyE_ready (rs := [0, 8]) (by kernel_rfl) (by simp) ?_
        refine AllE.cons rfl (fun K hK => ?_) (AllE.cons rfl (fun K hK => ?_) AllE.nil)
        · obtain ⟨x3, hx3⟩ : ∃ x, x2.alloc (.cells #[] 78) = x := ⟨_, rfl⟩
          obtain ⟨gA, hgA⟩ : ∃ x, x2.heap.size = x := ⟨_, rfl⟩
          have b3 : Below B' x2 x3 := by rw [← hx3]; exact b2.alloc l2 _
          have Z3 : Hid (x3.heap.size = x2.heap.size + 1) := Lib.hid (by rw [← hx3]; simp)
          have l3 : B' ≤ x3.heap.size := by have := Z3.out; omega
          have O3 : Hid (OwnsR' B' x3 78 6 (.slice (some ⟨gA, 0, none⟩) 0 0) []) := Lib.hid (by rw [← hx3, ← hgA]; exact OwnsR'.new (by simp) l2 (by unfold maxLen; simp) rfl)
          go_simp
          refine hK.out _ _ (HSB.out _ b3) (fun hHeld3 => ?_)
          clear hK K
          try simp only [List.getElem_toArray, List.getElem_cons_zero, List.getElem_cons_succ, Act.put, List.setIfInBounds_toArray, List.set_cons_zero, List.set_cons_succ]
          refine wpAnyE_ready (rs := [3, 8]) (by kernel_rfl) (by simp) ?_
          refine AllE.cons rfl (fun K hK => ?_) (AllE.cons rfl (fun K hK => ?_) AllE.nil)
          · rw [if_pos (by rfl)]
            refine wp_append_rows' _ _ 26 rfl B' 78 _ 6 48 Try.underlying26 info_rproc rfl (by decide) _ [] (by rfl) O3.out a c (procsV l) (by rw [HLQ.out]; rfl) (HRD.out _ b3) (procsV_one _) (by rw [HLQ.out]; simp; omega) (by rw [HLQ.out]; unfold maxLen; simp; omega) l3 ?_
            intro v4 x4 o4 G4
            have b4 : Below B' x2 x4 := b3.grown G4 l3 (fun j hj => (O3.out.lt j hj).1)
            have l4 : B' ≤ x4.heap.size := Nat.le_trans l3 G4.size
            have O4 := Lib.hid o4
            rw [List.nil_append] at O4
            clear o4 G4
            refine hK.out _ _ (HSB.out _ b4) (fun hHeld4 => ?_)
            clear hK K
            try simp only [List.getElem_toArray, List.getElem_cons_zero, List.getElem_cons_succ, Act.put, List.setIfInBounds_toArray, List.set_cons_zero, List.set_cons_succ]
            refine wpAnyE_ready (rs := [8]) (by kernel_rfl) (by simp) ?_
            refine AllE.cons rfl (fun K hK => ?_) AllE.nil
            obtain ⟨x5, hx5⟩ : ∃ x, x4.alloc (.cells #[.int .i64 M4, .int .i64 n, .int .i64 1, .int .i64 0, .int .i64 0, .bool false] 78) = x := ⟨_, rfl⟩
            obtain ⟨g7, hg7⟩ : ∃ x, x4.heap.size = x := ⟨_, rfl⟩
            have b5 : Below B' x2 x5 := by rw [← hx5]; exact b4.alloc l4 _
            have Z5 : Hid (x5.heap.size = x4.heap.size + 1) := Lib.hid (by rw [← hx5]; simp)
            have l5 : B' ≤ x5.heap.size := by have := Z5.out; omega
            have N5 : Hid (x5.heap[g7]? = some (.cells #[.int .i64 M4, .int .i64 n, .int .i64 1, .int .i64 0, .int .i64 0, .bool false] 78 (0, 0))) := Lib.hid (by rw [← hx5, ← hg7]; exact heap_alloc_new x4 _)
            have O5 := Lib.hid (O4.out.alloc (.cells #[.int .i64 M4, .int .i64 n, .int .i64 1, .int .i64 0, .int .i64 0, .bool false] 78))
            rw [hx5] at O5
            go_simp
            refine hK.out _ _ (HSB.out _ b5) (fun hHeld5 => ?_)
            clear hK K
            try simp only [List.getElem_toArray, List.getElem_cons_zero, List.getElem_cons_succ, Act.put, List.setIfInBounds_toArray, List.set_cons_zero, List.set_cons_succ]
            refine wpAnyE_ready (rs := [9]) (by kernel_rfl) (by simp) ?_
            refine AllE.cons rfl (fun K hK => ?_) AllE.nil
            refine step_append_row_at (by rfl) _ _ 26 rfl B' 78 _ 6 48 Try.underlying26 info_rproc rfl (by decide) v4 (procsV l) (by rfl) O5.out g7 1 [.int .i64 M4, .int .i64 n, .int .i64 1, .int .i64 0, .int .i64 0, .bool false] (by rfl) (by rfl) (fun j u hu => (cell_atT N5.out j).trans (by rw [List.getElem?_toArray]; exact hu)) (babyC_one _ _) (by rw [HLQ.out]; omega) (by rw [HLQ.out]; unfold maxLen; omega) l5 ?_
            intro v8 x8 o8 G8
            have b8 : Below B' x2 x8 := b5.grown G8 l5 (fun j hj => (O5.out.lt j hj).1)
            obtain ⟨gN, cN, x9, rfl, hx9, ⟨s0, s1⟩, HFIN⟩ := HEND.out v8 x8 b8 o8
            refine hK.out _ _ (HSB.out _ b8) (fun hHeld8 => ?_)
            clear hK K o8 G8
            try simp only [List.getElem_toArray, List.getElem_cons_zero, List.getElem_cons_succ, Act.put, List.setIfInBounds_toArray, List.set_cons_zero, List.set_cons_succ]
            refine wpAnyE_take (i := 10) (v := .pointer (some ⟨g0, 0, none⟩)) rfl (by kernel_rfl) (by decide) (by kernel_rfl) (by kernel_rfl) (by kernel_rfl) (fun _ _ _ h => h) (Or.inl ⟨by rfl, by intro W hSw; obtain ⟨q0, q1, q2, q3⟩ := hSw; go_simp⟩) (by assumption) ?_
            try simp only [List.getElem_toArray, List.getElem_cons_zero, List.getElem_cons_succ, Act.put, List.setIfInBounds_toArray, List.set_cons_zero, List.set_cons_succ]
            refine wpAnyE_ready (rs := [11]) (by kernel_rfl) (by simp) ?_
            refine AllE.last rfl (fun K hK => ?_)
            go_simp
            refine hK.out _ _ ?_
            clear hK K
            try simp only [List.getElem_toArray, List.getElem_cons_zero, List.getElem_cons_succ, Act.put, List.setIfInBounds_toArray, List.set_cons_zero, List.set_cons_succ]
            refine wpAnyE_done (by kernel_rfl) ?_ _
            go_wp2_with fail
            go_meet
            exact ⟨gN, cN, HFIN⟩
          · obtain ⟨x4, hx4⟩ : ∃ x, x3.alloc (.cells #[.int .i64 M4, .int .i64 n, .int .i64 1, .int .i64 0, .int .i64 0, .bool false] 78) = x := ⟨_, rfl⟩
            obtain ⟨g7, hg7⟩ : ∃ x, x3.heap.size = x := ⟨_, rfl⟩
            have b4 : Below B' x2 x4 := by rw [← hx4]; exact b3.alloc l3 _
            have Z4 : Hid (x4.heap.size = x3.heap.size + 1) := Lib.hid (by rw [← hx4]; simp)
            have l4 : B' ≤ x4.heap.size := by have := Z4.out; omega
            have N4 : Hid (x4.heap[g7]? = some (.cells #[.int .i64 M4, .int .i64 n, .int .i64 1, .int .i64 0, .int .i64 0, .bool false] 78 (0, 0))) := Lib.hid (by rw [← hx4, ← hg7]; exact heap_alloc_new x3 _)
            have O4 := Lib.hid (O3.out.alloc (.cells #[.int .i64 M4, .int .i64 n, .int .i64 1, .int .i64 0, .int .i64 0, .bool false] 78))
            rw [hx4] at O4
            go_simp
            refine hK.out _ _ (HSB.out _ b4) (fun hHeld4 => ?_)
            clear hK K
            try simp only [List.getElem_toArray, List.getElem_cons_zero, List.getElem_cons_succ, Act.put, List.setIfInBounds_toArray, List.set_cons_zero, List.set_cons_succ]
            refine wpAnyE_ready (rs := [3]) (by kernel_rfl) (by simp) ?_
            refine AllE.cons rfl (fun K hK => ?_) AllE.nil
            rw [if_pos (by rfl)]
            refine wp_append_rows' _ _ 26 rfl B' 78 _ 6 48 Try.underlying26 info_rproc rfl (by decide) _ [] (by rfl) O4.out a c (procsV l) (by rw [HLQ.out]; rfl) (HRD.out _ b4) (procsV_one _) (by rw [HLQ.out]; simp; omega) (by rw [HLQ.out]; unfold maxLen; simp; omega) l4 ?_
            intro v5 x5 o5 G5
            have b5 : Below B' x2 x5 := b4.grown G5 l4 (fun j hj => (O4.out.lt j hj).1)
            have l5 : B' ≤ x5.heap.size := Nat.le_trans l4 G5.size
            have O5 := Lib.hid o5
            rw [List.nil_append] at O5
            have N5 : Hid (x5.heap[g7]? = some (.cells #[.int .i64 M4, .int .i64 n, .int .i64 1, .int .i64 0, .int .i64 0, .bool false] 78 (0, 0))) := Lib.hid ((G5.block g7 (Array.getElem?_eq_some_iff.1 N4.out).1 (by show some g7 ≠ some gA; have h : g7 ≠ gA := (by have := Z3.out; omega); simpa using h)).trans N4.out)
            clear o5 G5
            refine hK.out _ _ (HSB.out _ b5) (fun hHeld5 => ?_)
            clear hK K
            try simp only [List.getElem_toArray, List.getElem_cons_zero, List.getElem_cons_succ, Act.put, List.setIfInBounds_toArray, List.set_cons_zero, List.set_cons_succ]
            refine wpAnyE_ready (rs := [9]) (by kernel_rfl) (by simp) ?_
            refine AllE.cons rfl (fun K hK => ?_) AllE.nil
            refine step_append_row_at (by rfl) _ _ 26 rfl B' 78 _ 6 48 Try.underlying26 info_rproc rfl (by decide) v5 (procsV l) (by rfl) O5.out g7 1 [.int .i64 M4, .int .i64 n, .int .i64 1, .int .i64 0, .int .i64 0, .bool false] (by rfl) (by rfl) (fun j u hu => (cell_atT N5.out j).trans (by rw [List.getElem?_toArray]; exact hu)) (babyC_one _ _) (by rw [HLQ.out]; omega) (by rw [HLQ.out]; unfold maxLen; omega) l5 ?_
            intro v8 x8 o8 G8
            have b8 : Below B' x2 x8 := b5.grown G8 l5 (fun j hj => (O5.out.lt j hj).1)
            obtain ⟨gN, cN, x9, rfl, hx9, ⟨s0, s1⟩, HFIN⟩ := HEND.out v8 x8 b8 o8
            refine hK.out _ _ (HSB.out _ b8) (fun hHeld8 => ?_)
            clear hK K o8 G8
            try simp only [List.getElem_toArray, List.getElem_cons_zero, List.getElem_cons_succ, Act.put, List.setIfInBounds_toArray, List.set_cons_zero, List.set_cons_succ]
            refine wpAnyE_take (i := 10) (v := .pointer (some ⟨g0, 0, none⟩)) rfl (by kernel_rfl) (by decide) (by kernel_rfl) (by kernel_rfl) (by kernel_rfl) (fun _ _ _ h => h) (Or.inl ⟨by rfl, by intro W hSw; obtain ⟨q0, q1, q2, q3⟩ := hSw; go_simp⟩) (by assumption) ?_
            try simp only [List.getElem_toArray, List.getElem_cons_zero, List.getElem_cons_succ, Act.put, List.setIfInBounds_toArray, List.set_cons_zero, List.set_cons_succ]
            refine wpAnyE_ready (rs := [11]) (by kernel_rfl) (by simp) ?_
            refine AllE.last rfl (fun K hK => ?_)
            go_simp
            refine hK.out _ _ ?_
            clear hK K
            try simp only [List.getElem_toArray, List.getElem_cons_zero, List.getElem_cons_succ, Act.put, List.setIfInBounds_toArray, List.set_cons_zero, List.set_cons_succ]
            refine wpAnyE_done (by kernel_rfl) ?_ _
            go_wp2_with fail
            go_meet
            exact ⟨gN, cN, HFIN⟩
        · obtain ⟨x3, hx3⟩ : ∃ x, x2.alloc (.cells #[.int .i64 M4, .int .i64 n, .int .i64 1, .int .i64 0, .int .i64 0, .bool false] 78) = x := ⟨_, rfl⟩
          obtain ⟨g7, hg7⟩ : ∃ x, x2.heap.size = x := ⟨_, rfl⟩
          have b3 : Below B' x2 x3 := by rw [← hx3]; exact b2.alloc l2 _
          have Z3 : Hid (x3.heap.size = x2.heap.size + 1) := Lib.hid (by rw [← hx3]; simp)
          have l3 : B' ≤ x3.heap.size := by have := Z3.out; omega
          have N3 : Hid (x3.heap[g7]? = some (.cells #[.int .i64 M4, .int .i64 n, .int .i64 1, .int .i64 0, .int .i64 0, .bool false] 78 (0, 0))) := Lib.hid (by rw [← hx3, ← hg7]; exact heap_alloc_new x2 _)
          go_simp
          refine hK.out _ _ (HSB.out _ b3) (fun hHeld3 => ?_)
          clear hK K
          try simp only [List.getElem_toArray, List.getElem_cons_zero, List.getElem_cons_succ, Act.put, List.setIfInBounds_toArray, List.set_cons_zero, List.set_cons_succ]
          refine wpAnyE_ready (rs := [0]) (by kernel_rfl) (by simp) ?_
          refine AllE.cons rfl (fun K hK => ?_) AllE.nil
          obtain ⟨x4, hx4⟩ : ∃ x, x3.alloc (.cells #[] 78) = x := ⟨_, rfl⟩
          obtain ⟨gA, hgA⟩ : ∃ x, x3.heap.size = x := ⟨_, rfl⟩
          have b4 : Below B' x2 x4 := by rw [← hx4]; exact b3.alloc l3 _
          have Z4 : Hid (x4.heap.size = x3.heap.size + 1) := Lib.hid (by rw [← hx4]; simp)
          have l4 : B' ≤ x4.heap.size := by have := Z4.out; omega
          have O4 : Hid (OwnsR' B' x4 78 6 (.slice (some ⟨gA, 0, none⟩) 0 0) []) := Lib.hid (by rw [← hx4, ← hgA]; exact OwnsR'.new (by simp) l3 (by unfold maxLen; simp) rfl)
          have N4 : Hid (x4.heap[g7]? = some (.cells #[.int .i64 M4, .int .i64 n, .int .i64 1, .int .i64 0, .int .i64 0, .bool false] 78 (0, 0))) := Lib.hid (by rw [← hx4]; exact ((below_box x3 _).block g7 (Array.getElem?_eq_some_iff.1 N3.out).1).trans N3.out)
          go_simp
          refine hK.out _ _ (HSB.out _ b4) (fun hHeld4 => ?_)
          clear hK K
          try simp only [List.getElem_toArray, List.getElem_cons_zero, List.getElem_cons_succ, Act.put, List.setIfInBounds_toArray, List.set_cons_zero, List.set_cons_succ]
          refine wpAnyE_ready (rs := [3]) (by kernel_rfl) (by simp) ?_
          refine AllE.cons rfl (fun K hK => ?_) AllE.nil
          rw [if_pos (by rfl)]
          refine wp_append_rows' _ _ 26 rfl B' 78 _ 6 48 Try.underlying26 info_rproc rfl (by decide) _ [] (by rfl) O4.out a c (procsV l) (by rw [HLQ.out]; rfl) (HRD.out _ b4) (procsV_one _) (by rw [HLQ.out]; simp; omega) (by rw [HLQ.out]; unfold maxLen; simp; omega) l4 ?_
          intro v5 x5 o5 G5
          have b5 : Below B' x2 x5 := b4.grown G5 l4 (fun j hj => (O4.out.lt j hj).1)
          have l5 : B' ≤ x5.heap.size := Nat.le_trans l4 G5.size
          have O5 := Lib.hid o5
          rw [List.nil_append] at O5
          have N5 : Hid (x5.heap[g7]? = some (.cells #[.int .i64 M4, .int .i64 n, .int .i64 1, .int .i64 0, .int .i64 0, .bool false] 78 (0, 0))) := Lib.hid ((G5.block g7 (Array.getElem?_eq_some_iff.1 N4.out).1 (by show some g7 ≠ some gA; have h : g7 ≠ gA := (by have := Z3.out; omega); simpa using h)).trans N4.out)
          clear o5 G5
          refine hK.out _ _ (HSB.out _ b5) (fun hHeld5 => ?_)
          clear hK K
          try simp only [List.getElem_toArray, List.getElem_cons_zero, List.getElem_cons_succ, Act.put, List.setIfInBounds_toArray, List.set_cons_zero, List.set_cons_succ]
          refine wpAnyE_ready (rs := [9]) (by kernel_rfl) (by simp) ?_
          refine AllE.cons rfl (fun K hK => ?_) AllE.nil
          refine step_append_row_at (by rfl) _ _ 26 rfl B' 78 _ 6 48 Try.underlying26 info_rproc rfl (by decide) v5 (procsV l) (by rfl) O5.out g7 1 [.int .i64 M4, .int .i64 n, .int .i64 1, .int .i64 0, .int .i64 0, .bool false] (by rfl) (by rfl) (fun j u hu => (cell_atT N5.out j).trans (by rw [List.getElem?_toArray]; exact hu)) (babyC_one _ _) (by rw [HLQ.out]; omega) (by rw [HLQ.out]; unfold maxLen; omega) l5 ?_
          intro v8 x8 o8 G8
          have b8 : Below B' x2 x8 := b5.grown G8 l5 (fun j hj => (O5.out.lt j hj).1)
          obtain ⟨gN, cN, x9, rfl, hx9, ⟨s0, s1⟩, HFIN⟩ := HEND.out v8 x8 b8 o8
          refine hK.out _ _ (HSB.out _ b8) (fun hHeld8 => ?_)
          clear hK K o8 G8
          try simp only [List.getElem_toArray, List.getElem_cons_zero, List.getElem_cons_succ, Act.put, List.setIfInBounds_toArray, List.set_cons_zero, List.set_cons_succ]
          refine wpAnyE_take (i := 10) (v := .pointer (some ⟨g0, 0, none⟩)) rfl (by kernel_rfl) (by decide) (by kernel_rfl) (by kernel_rfl) (by kernel_rfl) (fun _ _ _ h => h) (Or.inl ⟨by rfl, by intro W hSw; obtain ⟨q0, q1, q2, q3⟩ := hSw; go_simp⟩) (by assumption) ?_
          try simp only [List.getElem_toArray, List.getElem_cons_zero, List.getElem_cons_succ, Act.put, List.setIfInBounds_toArray, List.set_cons_zero, List.set_cons_succ]
          refine wpAnyE_ready (rs := [11]) (by kernel_rfl) (by simp) ?_
          refine AllE.last rfl (fun K hK => ?_)
          go_simp
          refine hK.out _ _ ?_
          clear hK K
          try simp only [List.getElem_toArray, List.getElem_cons_zero, List.getElem_cons_succ, Act.put, List.setIfInBounds_toArray, List.set_cons_zero, List.set_cons_succ]
          refine wpAnyE_done (by kernel_rfl) ?_ _
          go_wp2_with fail
          go_meet
          exact ⟨gN, cN, HFIN⟩
      case rest =>
        obtain ⟨gN, cN, HZ⟩ := hcut
        clear HP4 HP3
        have HD := Lib.hid (And.intro (HZ.out.1.below (below_drew wc)) (HZ.out.2.below (below_drew wc)))
        clear HZ
        go_upto_region 8 with fail
        refine wp_region_held_drew (S := fun W => W.cell? ⟨g0, 0, none⟩ = some (.slice (some ⟨gN, 0, none⟩) (L + 1) cN) ∧ W.cell? ⟨g0, 1, none⟩ = some (.int .i64 M1) ∧ W.cell? ⟨g0, 2, none⟩ = some (.int .i64 M4) ∧ W.cell? ⟨g0, 3, none⟩ = some (.int .i64 M3)) (by kernel_rfl) HD.out.1.t.cells.1 (fun hHeld => ?_)
        generalize wc.drew = x2 at *
        obtain ⟨⟨r0, r1, r2, r3⟩, rf, W', hW', HF⟩ := HD.out.1.fin (.slice (some ⟨gN, 0, none⟩) (L + 1) cN) M1 M4 M3
        have HSW := Lib.hid (HD.out.1.t.kept HF.out.2.2 (by intro e; have e9 : g0 = g1 := Option.some.inj e; have := HD.out.1.g; omega)).cells.1
        refine wpAnyH_take (i := 0) (v := .agg #[.slice (some ⟨gN, 0, none⟩) (L + 1) cN, .int .i64 M1, .int .i64 M4, .int .i64 M3]) rfl (by kernel_rfl) (by kernel_rfl) (by kernel_rfl) (fun _ _ _ h => h) (Or.inl ⟨by rfl, by intro W hSw; obtain ⟨q0, q1, q2, q3⟩ := hSw; go_simp⟩) (by assumption) ?_
        try simp only [List.getElem_toArray, List.getElem_cons_zero, List.getElem_cons_succ, Act.put, List.setIfInBounds_toArray, List.set_cons_zero, List.set_cons_succ]
        refine wpAnyH_take (i := 1) (v := .pointer (some ⟨g0, 2, none⟩)) rfl (by kernel_rfl) (by kernel_rfl) (by kernel_rfl) (fun _ _ _ h => h) (Or.inl ⟨by rfl, by intro W hSw; obtain ⟨q0, q1, q2, q3⟩ := hSw; go_simp⟩) (by assumption) ?_
        try simp only [List.getElem_toArray, List.getElem_cons_zero, List.getElem_cons_succ, Act.put, List.setIfInBounds_toArray, List.set_cons_zero, List.set_cons_succ]
        refine wpAnyH_take (i := 2) (v := .int .i64 M4) rfl (by kernel_rfl) (by kernel_rfl) (by kernel_rfl) (fun _ _ _ h => h) (Or.inl ⟨by rfl, by intro W hSw; obtain ⟨q0, q1, q2, q3⟩ := hSw; go_simp⟩) (by assumption) ?_
        try simp only [List.getElem_toArray, List.getElem_cons_zero, List.getElem_cons_succ, Act.put, List.setIfInBounds_toArray, List.set_cons_zero, List.set_cons_succ]
        refine wpAnyH_ready (rs := [3]) (by kernel_rfl) (by simp) ?_
        refine AllReadyH.cons rfl (fun K hK => ?_) AllReadyH.nil
        go_simp
        refine hK.out _ _ HSW.out (fun hHeld2 => ?_)
        clear hK K hHeld
        try simp only [List.getElem_toArray, List.getElem_cons_zero, List.getElem_cons_succ, Act.put, List.setIfInBounds_toArray, List.set_cons_zero, List.set_cons_succ]
        refine wpAnyH_take (i := 4) (v := .int .i64 M4) rfl (by kernel_rfl) (by kernel_rfl) (by kernel_rfl) (fun _ _ _ h => h) (Or.inl ⟨by rfl, by intro W hSw; obtain ⟨q0, q1, q2, q3⟩ := hSw; go_simp⟩) (by assumption) ?_
        try simp only [List.getElem_toArray, List.getElem_cons_zero, List.getElem_cons_succ, Act.put, List.setIfInBounds_toArray, List.set_cons_zero, List.set_cons_succ]
        refine wpAnyH_take (i := 5) (v := .int .i64 0) rfl (by kernel_rfl) (by kernel_rfl) (by kernel_rfl) (fun _ _ _ h => h) (Or.inl ⟨by rfl, by intro W hSw; obtain ⟨q0, q1, q2, q3⟩ := hSw; go_simp⟩) (by assumption) ?_
        try simp only [List.getElem_toArray, List.getElem_cons_zero, List.getElem_cons_succ, Act.put, List.setIfInBounds_toArray, List.set_cons_zero, List.set_cons_succ]
        refine wpAnyH_done (by kernel_rfl) ?_ _
        all_goals
          go_wp2_with fail
          refine bodyPost_ret (results_rt3 rfl _ _ g1 rfl HF.out.1) rfl ⟨_, rfl, ⟨some ⟨gN, 0, none⟩, cN, ?_, ?_, HOK2.out⟩, HF.out.2.1⟩
          · unfold rtabV
            show _ = Value.agg #[.slice _ (l ++ [_]).length cN, .int .i64 M1, .int .i64 M4, .int .i64 M3]
            rw [List.length_append, List.length_singleton, HL.out]
          · show OwnsR' B W' _ 6 (.slice _ (l ++ [_]).length cN) _
            rw [List.length_append, List.length_singleton, HL.out]
            exact (HD.out.2.less hB).kept HF.out.2.2 (.inr (by intro e; have e9 : gN = g1 := Option.some.inj e; have h9 := HD.out.2.apartT HD.out.1.r (by decide); exact h9 (by rw [e9]; rfl)))
end Go.Proofs.Ytnengblmcfiajaa
