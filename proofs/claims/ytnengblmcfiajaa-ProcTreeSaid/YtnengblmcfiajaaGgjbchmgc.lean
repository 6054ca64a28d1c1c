/- The law's acts on processes: Do, by its walk. (Printed by wip/gen/do22.py.) -/
import Derived.Test.YtnengblmcfiajaaGjghklffl
namespace Go.Proofs.Ytnengblmcfiajaa
open Go.RowKit Go.Sort
set_option linter.unusedVariables false
set_option linter.unusedSimpArgs false
set_option maxRecDepth 100000

theorem act_cells {w : World} {g : Nat} {kd x y : Int} (h : w.heap[g]? = some (.cells #[.int .i64 kd, .int .i64 x, .int .i64 y] 31 (0, 0))) : w.cell? ⟨g, 0, none⟩ = some (.int .i64 kd) ∧ w.cell? ⟨g, 1, none⟩ = some (.int .i64 x) ∧ w.cell? ⟨g, 2, none⟩ = some (.int .i64 y) := ⟨cell_atT h 0, cell_atT h 1, cell_atT h 2⟩
set_option maxHeartbeats 1600000 in
theorem do22_0 {B : Nat} {w : World} {g gs cap : Nat} {v0 : Value} {T1 T2 : TabD} (h1 : IsTable B w g gs cap T1) (h2 : RTab B w v0 T2) (hB : B ≤ w.heap.size) (hI1 : TrInv T1) (hI2 : TrInv T2) (hl1 : T1.last < 1000000) (hl2 : T2.last < 1000000) (x y : Int) :
    Calls Try.prog 10 #[.pointer (some ⟨g, 0, none⟩), v0, .agg #[.int .i64 0, .int .i64 x, .int .i64 y]] w (Do22Post B w g gs T1 T2 (doF T1 0 x y) (doF T2 0 x y)) := by
  obtain ⟨a, c, rfl, ho, hok⟩ := id h2
  obtain ⟨v0, hv0⟩ : ∃ v, rtabV a T2.list.length c T2 = v := ⟨_, rfl⟩
  obtain ⟨w1, w2, w3, g0, g1, g2, hw1, hw2, hw3, hg0, hg1, hg2, HBX⟩ := doBx_new w (.slice a T2.list.length c) T2.most T2.last T2.now 0 x y
  have H1 : Hid (IsTable B w3 g gs cap T1) := Lib.hid (h1.below HBX.out.2)
  have H2 : Hid (RTab B w v0 T2) := Lib.hid (by rw [← hv0]; exact h2)
  have HG : Hid (g < w.heap.size ∧ gs < w.heap.size) := Lib.hid ⟨(table_lt h1).1, (table_lt h1).2.1⟩
  have HBW := Lib.hid hB
  have HI1 := Lib.hid hI1
  have HI2 := Lib.hid hI2
  have HLA := Lib.hid hl1
  have HLB := Lib.hid hl2
  clear h1 h2 ho hok hB hI1 hI2 hl1 hl2
  obtain ⟨p1, hp1⟩ : ∃ p, forkF T1 x = p := ⟨_, rfl⟩
  obtain ⟨p2, hp2⟩ : ∃ p, forkF T2 x = p := ⟨_, rfl⟩
  have HP := Lib.hid (pfork_is H1.out x HLA.out)
  have HQ := Lib.hid (fun (W : World) (HR4 : Hid (RTab B W (rtabV a T2.list.length c T2) T2)) (hB4 : B ≤ W.heap.size) => rfork_is HR4.out hB4 HI2.out.room HLB.out x)
  have HE : Hid (T1 = T2 → p1 = p2) := Lib.hid (by intro e; rw [← hp1, ← hp2, e])
  have HD1 : Hid (doF T1 0 x y = p1.1) := Lib.hid (by rw [← hp1]; rfl)
  have HD2 : Hid (doF T2 0 x y = p2.1) := Lib.hid (by rw [← hp2]; rfl)
  rw [hp1] at HP
  simp only [hp2] at HQ
  rw [HD1.out, HD2.out]
  obtain ⟨S1, A1, B1⟩ := p1
  obtain ⟨S2, A2, B2⟩ := p2
  dsimp only at HP HQ HE HD1 HD2
  clear hp1 hp2 HD1 HD2
  unfold rtabV at HQ
  show Calls Try.prog 10 #[.pointer (some ⟨g, 0, none⟩), .agg #[.slice a T2.list.length c, .int .i64 T2.most, .int .i64 T2.last, .int .i64 T2.now], .agg #[.int .i64 0, .int .i64 x, .int .i64 y]] w _
  by_cases hA : A1 = A2
  · have fA : (A1 == A2) = true := by simpa using hA
    by_cases hB : B1 = B2
    · have fB : (B1 == B2) = true := by simpa using hB
      clear hA hB
      go_enter Try.func10, Try.ntmps10
      obtain ⟨⟨t0, t1, t2, t3⟩, _, _⟩ := HBX.out.1.t.cells
      obtain ⟨c0, c1, c2⟩ := act_cells HBX.out.1.q
      go_wp2_with fail
      refine HP.out.mono ?_
      rintro e w4 ⟨gs4, cap4, rfl, h4, k4⟩
      have HB4 := Lib.hid (HBX.out.1.told k4 HG.out.1 HG.out.2)
      have HR4 : Hid (RTab B w4 (rtabV a T2.list.length c T2) T2) := Lib.hid (((by rw [hv0]; exact H2.out : RTab B w (rtabV a T2.list.length c T2) T2).below HBX.out.2).keptTK H1.out k4)
      have HT4 := Lib.hid (And.intro h4 ((TKeeps.of_below HBX.out.2).trans k4))
      have hB4 : B ≤ w4.heap.size := Nat.le_trans HBW.out (Nat.le_trans HBX.out.2.size k4.size)
      have HQ4 := Lib.hid (HQ.out w4 HR4 hB4)
      clear t0 t1 t2 t3 c0 c1 c2 h4 k4 HQ hw1 hw2 hw3 hg0 hg1 hg2 hB4
      obtain ⟨⟨t0, t1, t2, t3⟩, _, _⟩ := HB4.out.t.cells
      obtain ⟨c0, c1, c2⟩ := act_cells HB4.out.q
      go_wp2_with fail
      refine HQ4.out.mono ?_
      rintro e w5 ⟨v5, rfl, hr5, b5⟩
      obtain ⟨a5, c5, rfl, ho5, ok5⟩ := hr5
      have HR5 := Lib.hid (show RTab B w5 (rtabV a5 S2.list.length c5 S2) S2 from ⟨a5, c5, rfl, ho5, ok5⟩)
      unfold rtabV
      have kx := below_box w5 (.cells #[.slice a5 S2.list.length c5, .int .i64 S2.most, .int .i64 S2.last, .int .i64 S2.now] 28)
      have nx : BoxR _ w5.heap.size _ _ _ _ := heap_alloc_new w5 (.cells #[.slice a5 S2.list.length c5, .int .i64 S2.most, .int .i64 S2.last, .int .i64 S2.now] 28)
      obtain ⟨w6, hw6⟩ : ∃ X, w5.alloc (.cells #[.slice a5 S2.list.length c5, .int .i64 S2.most, .int .i64 S2.last, .int .i64 S2.now] 28) = X := ⟨_, rfl⟩
      rw [hw6] at kx nx
      have HB6 := Lib.hid ((HB4.out.below b5).below kx)
      have HK6 := Lib.hid (below_next b5 kx)
      have HR6 := Lib.hid (HR5.out.below kx)
      obtain ⟨⟨z0, z1, z2, z3⟩, _, _⟩ := nx.cells
      clear t0 t1 t2 t3 c0 c1 c2 b5 kx nx ho5 ok5 HQ4
      obtain ⟨⟨r0, r1, r2, r3⟩, rf, W', hW', HF⟩ := HB6.out.fin (.slice a5 S2.list.length c5) S2.most S2.last S2.now
      go_wp2
      refine bodyPost_ret (results_rt2 rfl _ _ g2 rfl HF.out.1) rfl ?_
      exact do22_fin HT4.out.1 HT4.out.2 HK6.out HR6.out HF.out.2 HB6.out.r (by have := HB6.out.g; omega) (by intro _; rfl)
    · have fB : (B1 == B2) = false := by simpa using hB
      have HNE : Hid (¬ ((S1, A1, B1) = ((S2, A2, B2) : TabD × Int × Int))) := Lib.hid (by intro e; simp only [Prod.mk.injEq] at e; exact hB (by obtain ⟨_, eA, eB⟩ := e; exact eB))
      clear hA hB
      go_enter Try.func10, Try.ntmps10
      obtain ⟨⟨t0, t1, t2, t3⟩, _, _⟩ := HBX.out.1.t.cells
      obtain ⟨c0, c1, c2⟩ := act_cells HBX.out.1.q
      go_wp2_with fail
      refine HP.out.mono ?_
      rintro e w4 ⟨gs4, cap4, rfl, h4, k4⟩
      have HB4 := Lib.hid (HBX.out.1.told k4 HG.out.1 HG.out.2)
      have HR4 : Hid (RTab B w4 (rtabV a T2.list.length c T2) T2) := Lib.hid (((by rw [hv0]; exact H2.out : RTab B w (rtabV a T2.list.length c T2) T2).below HBX.out.2).keptTK H1.out k4)
      have HT4 := Lib.hid (And.intro h4 ((TKeeps.of_below HBX.out.2).trans k4))
      have hB4 : B ≤ w4.heap.size := Nat.le_trans HBW.out (Nat.le_trans HBX.out.2.size k4.size)
      have HQ4 := Lib.hid (HQ.out w4 HR4 hB4)
      clear t0 t1 t2 t3 c0 c1 c2 h4 k4 HQ hw1 hw2 hw3 hg0 hg1 hg2 hB4
      obtain ⟨⟨t0, t1, t2, t3⟩, _, _⟩ := HB4.out.t.cells
      obtain ⟨c0, c1, c2⟩ := act_cells HB4.out.q
      go_wp2_with fail
      refine HQ4.out.mono ?_
      rintro e w5 ⟨v5, rfl, hr5, b5⟩
      obtain ⟨a5, c5, rfl, ho5, ok5⟩ := hr5
      have HR5 := Lib.hid (show RTab B w5 (rtabV a5 S2.list.length c5 S2) S2 from ⟨a5, c5, rfl, ho5, ok5⟩)
      unfold rtabV
      have kx := below_box w5 (.cells #[.slice a5 S2.list.length c5, .int .i64 S2.most, .int .i64 S2.last, .int .i64 S2.now] 28)
      have nx : BoxR _ w5.heap.size _ _ _ _ := heap_alloc_new w5 (.cells #[.slice a5 S2.list.length c5, .int .i64 S2.most, .int .i64 S2.last, .int .i64 S2.now] 28)
      obtain ⟨w6, hw6⟩ : ∃ X, w5.alloc (.cells #[.slice a5 S2.list.length c5, .int .i64 S2.most, .int .i64 S2.last, .int .i64 S2.now] 28) = X := ⟨_, rfl⟩
      rw [hw6] at kx nx
      have HB6 := Lib.hid ((HB4.out.below b5).below kx)
      have HK6 := Lib.hid (below_next b5 kx)
      have HR6 := Lib.hid (HR5.out.below kx)
      obtain ⟨⟨z0, z1, z2, z3⟩, _, _⟩ := nx.cells
      clear t0 t1 t2 t3 c0 c1 c2 b5 kx nx ho5 ok5 HQ4
      obtain ⟨⟨r0, r1, r2, r3⟩, rf, W', hW', HF⟩ := HB6.out.fin (.slice a5 S2.list.length c5) S2.most S2.last S2.now
      go_wp2
      refine bodyPost_ret (results_rt2 rfl _ _ g2 rfl HF.out.1) rfl ?_
      exact do22_fin HT4.out.1 HT4.out.2 HK6.out HR6.out HF.out.2 HB6.out.r (by have := HB6.out.g; omega) (by intro e; exact absurd (HE.out e) HNE.out)
  · have fA : (A1 == A2) = false := by simpa using hA
    have HNE : Hid (¬ ((S1, A1, B1) = ((S2, A2, B2) : TabD × Int × Int))) := Lib.hid (by intro e; simp only [Prod.mk.injEq] at e; exact hA (by obtain ⟨_, eA, eB⟩ := e; exact eA))
    clear hA
    go_enter Try.func10, Try.ntmps10
    obtain ⟨⟨t0, t1, t2, t3⟩, _, _⟩ := HBX.out.1.t.cells
    obtain ⟨c0, c1, c2⟩ := act_cells HBX.out.1.q
    go_wp2_with fail
    refine HP.out.mono ?_
    rintro e w4 ⟨gs4, cap4, rfl, h4, k4⟩
    have HB4 := Lib.hid (HBX.out.1.told k4 HG.out.1 HG.out.2)
    have HR4 : Hid (RTab B w4 (rtabV a T2.list.length c T2) T2) := Lib.hid (((by rw [hv0]; exact H2.out : RTab B w (rtabV a T2.list.length c T2) T2).below HBX.out.2).keptTK H1.out k4)
    have HT4 := Lib.hid (And.intro h4 ((TKeeps.of_below HBX.out.2).trans k4))
    have hB4 : B ≤ w4.heap.size := Nat.le_trans HBW.out (Nat.le_trans HBX.out.2.size k4.size)
    have HQ4 := Lib.hid (HQ.out w4 HR4 hB4)
    clear t0 t1 t2 t3 c0 c1 c2 h4 k4 HQ hw1 hw2 hw3 hg0 hg1 hg2 hB4
    obtain ⟨⟨t0, t1, t2, t3⟩, _, _⟩ := HB4.out.t.cells
    obtain ⟨c0, c1, c2⟩ := act_cells HB4.out.q
    go_wp2_with fail
    refine HQ4.out.mono ?_
    rintro e w5 ⟨v5, rfl, hr5, b5⟩
    obtain ⟨a5, c5, rfl, ho5, ok5⟩ := hr5
    have HR5 := Lib.hid (show RTab B w5 (rtabV a5 S2.list.length c5 S2) S2 from ⟨a5, c5, rfl, ho5, ok5⟩)
    unfold rtabV
    have kx := below_box w5 (.cells #[.slice a5 S2.list.length c5, .int .i64 S2.most, .int .i64 S2.last, .int .i64 S2.now] 28)
    have nx : BoxR _ w5.heap.size _ _ _ _ := heap_alloc_new w5 (.cells #[.slice a5 S2.list.length c5, .int .i64 S2.most, .int .i64 S2.last, .int .i64 S2.now] 28)
    obtain ⟨w6, hw6⟩ : ∃ X, w5.alloc (.cells #[.slice a5 S2.list.length c5, .int .i64 S2.most, .int .i64 S2.last, .int .i64 S2.now] 28) = X := ⟨_, rfl⟩
    rw [hw6] at kx nx
    have HB6 := Lib.hid ((HB4.out.below b5).below kx)
    have HK6 := Lib.hid (below_next b5 kx)
    have HR6 := Lib.hid (HR5.out.below kx)
    obtain ⟨⟨z0, z1, z2, z3⟩, _, _⟩ := nx.cells
    clear t0 t1 t2 t3 c0 c1 c2 b5 kx nx ho5 ok5 HQ4
    obtain ⟨⟨r0, r1, r2, r3⟩, rf, W', hW', HF⟩ := HB6.out.fin (.slice a5 S2.list.length c5) S2.most S2.last S2.now
    go_wp2
    refine bodyPost_ret (results_rt2 rfl _ _ g2 rfl HF.out.1) rfl ?_
    exact do22_fin HT4.out.1 HT4.out.2 HK6.out HR6.out HF.out.2 HB6.out.r (by have := HB6.out.g; omega) (by intro e; exact absurd (HE.out e) HNE.out)
set_option maxHeartbeats 1600000 in
theorem do22_1 {B : Nat} {w : World} {g gs cap : Nat} {v0 : Value} {T1 T2 : TabD} (h1 : IsTable B w g gs cap T1) (h2 : RTab B w v0 T2) (hB : B ≤ w.heap.size) (hI1 : TrInv T1) (hI2 : TrInv T2) (hl1 : T1.last < 1000000) (hl2 : T2.last < 1000000) (x y : Int) :
    Calls Try.prog 10 #[.pointer (some ⟨g, 0, none⟩), v0, .agg #[.int .i64 1, .int .i64 x, .int .i64 y]] w (Do22Post B w g gs T1 T2 (doF T1 1 x y) (doF T2 1 x y)) := by
  obtain ⟨a, c, rfl, ho, hok⟩ := id h2
  obtain ⟨v0, hv0⟩ : ∃ v, rtabV a T2.list.length c T2 = v := ⟨_, rfl⟩
  obtain ⟨w1, w2, w3, g0, g1, g2, hw1, hw2, hw3, hg0, hg1, hg2, HBX⟩ := doBx_new w (.slice a T2.list.length c) T2.most T2.last T2.now 1 x y
  have H1 : Hid (IsTable B w3 g gs cap T1) := Lib.hid (h1.below HBX.out.2)
  have H2 : Hid (RTab B w v0 T2) := Lib.hid (by rw [← hv0]; exact h2)
  have HG : Hid (g < w.heap.size ∧ gs < w.heap.size) := Lib.hid ⟨(table_lt h1).1, (table_lt h1).2.1⟩
  have HBW := Lib.hid hB
  have HI1 := Lib.hid hI1
  have HI2 := Lib.hid hI2
  have HLA := Lib.hid hl1
  have HLB := Lib.hid hl2
  clear h1 h2 ho hok hB hI1 hI2 hl1 hl2
  obtain ⟨p1, hp1⟩ : ∃ p, exitF T1 x y = p := ⟨_, rfl⟩
  obtain ⟨p2, hp2⟩ : ∃ p, exitF T2 x y = p := ⟨_, rfl⟩
  have HP := Lib.hid (pexit_is H1.out HI1.out x y)
  have HQ := Lib.hid (fun (W : World) (HR4 : Hid (RTab B W (rtabV a T2.list.length c T2) T2)) (hB4 : B ≤ W.heap.size) => rexit_is HR4.out hB4 HI2.out x y)
  have HE : Hid (T1 = T2 → p1 = p2) := Lib.hid (by intro e; rw [← hp1, ← hp2, e])
  have HD1 : Hid (doF T1 1 x y = p1.1) := Lib.hid (by rw [← hp1]; rfl)
  have HD2 : Hid (doF T2 1 x y = p2.1) := Lib.hid (by rw [← hp2]; rfl)
  rw [hp1] at HP
  simp only [hp2] at HQ
  rw [HD1.out, HD2.out]
  obtain ⟨S1, A1⟩ := p1
  obtain ⟨S2, A2⟩ := p2
  dsimp only at HP HQ HE HD1 HD2
  clear hp1 hp2 HD1 HD2
  unfold rtabV at HQ
  show Calls Try.prog 10 #[.pointer (some ⟨g, 0, none⟩), .agg #[.slice a T2.list.length c, .int .i64 T2.most, .int .i64 T2.last, .int .i64 T2.now], .agg #[.int .i64 1, .int .i64 x, .int .i64 y]] w _
  obtain ⟨z, hz⟩ : ∃ z, (A1 == A2) = z := ⟨_, rfl⟩
  have HZ : Hid (T1 = T2 → z = true) := Lib.hid (by intro e; have e9 := (Prod.mk.inj (HE.out e)).2; rw [← hz, e9]; simp)
  go_enter Try.func10, Try.ntmps10
  obtain ⟨⟨t0, t1, t2, t3⟩, _, _⟩ := HBX.out.1.t.cells
  obtain ⟨c0, c1, c2⟩ := act_cells HBX.out.1.q
  go_wp2_with fail
  refine HP.out.mono ?_
  rintro e w4 ⟨gs4, cap4, rfl, h4, k4⟩
  have HB4 := Lib.hid (HBX.out.1.told k4 HG.out.1 HG.out.2)
  have HR4 : Hid (RTab B w4 (rtabV a T2.list.length c T2) T2) := Lib.hid (((by rw [hv0]; exact H2.out : RTab B w (rtabV a T2.list.length c T2) T2).below HBX.out.2).keptTK H1.out k4)
  have HT4 := Lib.hid (And.intro h4 ((TKeeps.of_below HBX.out.2).trans k4))
  have hB4 : B ≤ w4.heap.size := Nat.le_trans HBW.out (Nat.le_trans HBX.out.2.size k4.size)
  have HQ4 := Lib.hid (HQ.out w4 HR4 hB4)
  clear t0 t1 t2 t3 c0 c1 c2 h4 k4 HQ hw1 hw2 hw3 hg0 hg1 hg2 hB4
  obtain ⟨⟨t0, t1, t2, t3⟩, _, _⟩ := HB4.out.t.cells
  obtain ⟨c0, c1, c2⟩ := act_cells HB4.out.q
  go_wp2_with fail
  refine HQ4.out.mono ?_
  rintro e w5 ⟨v5, rfl, hr5, b5⟩
  obtain ⟨a5, c5, rfl, ho5, ok5⟩ := hr5
  have HR5 := Lib.hid (show RTab B w5 (rtabV a5 S2.list.length c5 S2) S2 from ⟨a5, c5, rfl, ho5, ok5⟩)
  unfold rtabV
  have kx := below_box w5 (.cells #[.slice a5 S2.list.length c5, .int .i64 S2.most, .int .i64 S2.last, .int .i64 S2.now] 28)
  have nx : BoxR _ w5.heap.size _ _ _ _ := heap_alloc_new w5 (.cells #[.slice a5 S2.list.length c5, .int .i64 S2.most, .int .i64 S2.last, .int .i64 S2.now] 28)
  obtain ⟨w6, hw6⟩ : ∃ X, w5.alloc (.cells #[.slice a5 S2.list.length c5, .int .i64 S2.most, .int .i64 S2.last, .int .i64 S2.now] 28) = X := ⟨_, rfl⟩
  rw [hw6] at kx nx
  have HB6 := Lib.hid ((HB4.out.below b5).below kx)
  have HK6 := Lib.hid (below_next b5 kx)
  have HR6 := Lib.hid (HR5.out.below kx)
  obtain ⟨⟨z0, z1, z2, z3⟩, _, _⟩ := nx.cells
  clear t0 t1 t2 t3 c0 c1 c2 b5 kx nx ho5 ok5 HQ4
  obtain ⟨⟨r0, r1, r2, r3⟩, rf, W', hW', HF⟩ := HB6.out.fin (.slice a5 S2.list.length c5) S2.most S2.last S2.now
  go_wp2
  refine bodyPost_ret (results_rt2 rfl _ _ g2 rfl HF.out.1) rfl ?_
  exact do22_fin HT4.out.1 HT4.out.2 HK6.out HR6.out HF.out.2 HB6.out.r (by have := HB6.out.g; omega) (by exact HZ.out)
set_option maxHeartbeats 1600000 in
theorem do22_2 {B : Nat} {w : World} {g gs cap : Nat} {v0 : Value} {T1 T2 : TabD} (h1 : IsTable B w g gs cap T1) (h2 : RTab B w v0 T2) (hB : B ≤ w.heap.size) (hI1 : TrInv T1) (hI2 : TrInv T2) (hl1 : T1.last < 1000000) (hl2 : T2.last < 1000000) (x y : Int) :
    Calls Try.prog 10 #[.pointer (some ⟨g, 0, none⟩), v0, .agg #[.int .i64 2, .int .i64 x, .int .i64 y]] w (Do22Post B w g gs T1 T2 (doF T1 2 x y) (doF T2 2 x y)) := by
  obtain ⟨a, c, rfl, ho, hok⟩ := id h2
  obtain ⟨v0, hv0⟩ : ∃ v, rtabV a T2.list.length c T2 = v := ⟨_, rfl⟩
  obtain ⟨w1, w2, w3, g0, g1, g2, hw1, hw2, hw3, hg0, hg1, hg2, HBX⟩ := doBx_new w (.slice a T2.list.length c) T2.most T2.last T2.now 2 x y
  have H1 : Hid (IsTable B w3 g gs cap T1) := Lib.hid (h1.below HBX.out.2)
  have H2 : Hid (RTab B w v0 T2) := Lib.hid (by rw [← hv0]; exact h2)
  have HG : Hid (g < w.heap.size ∧ gs < w.heap.size) := Lib.hid ⟨(table_lt h1).1, (table_lt h1).2.1⟩
  have HBW := Lib.hid hB
  have HI1 := Lib.hid hI1
  have HI2 := Lib.hid hI2
  have HLA := Lib.hid hl1
  have HLB := Lib.hid hl2
  clear h1 h2 ho hok hB hI1 hI2 hl1 hl2
  obtain ⟨p1, hp1⟩ : ∃ p, waitF T1 x = p := ⟨_, rfl⟩
  obtain ⟨p2, hp2⟩ : ∃ p, waitF T2 x = p := ⟨_, rfl⟩
  have HP := Lib.hid (pwait_is H1.out HI1.out x)
  have HQ := Lib.hid (fun (W : World) (HR4 : Hid (RTab B W (rtabV a T2.list.length c T2) T2)) (hB4 : B ≤ W.heap.size) => rwait_is HR4.out hB4 HI2.out x)
  have HE : Hid (T1 = T2 → p1 = p2) := Lib.hid (by intro e; rw [← hp1, ← hp2, e])
  have HD1 : Hid (doF T1 2 x y = p1.1) := Lib.hid (by rw [← hp1]; rfl)
  have HD2 : Hid (doF T2 2 x y = p2.1) := Lib.hid (by rw [← hp2]; rfl)
  rw [hp1] at HP
  simp only [hp2] at HQ
  rw [HD1.out, HD2.out]
  obtain ⟨S1, A1, B1, C1⟩ := p1
  obtain ⟨S2, A2, B2, C2⟩ := p2
  dsimp only at HP HQ HE HD1 HD2
  clear hp1 hp2 HD1 HD2
  unfold rtabV at HQ
  show Calls Try.prog 10 #[.pointer (some ⟨g, 0, none⟩), .agg #[.slice a T2.list.length c, .int .i64 T2.most, .int .i64 T2.last, .int .i64 T2.now], .agg #[.int .i64 2, .int .i64 x, .int .i64 y]] w _
  by_cases hA : A1 = A2
  · have fA : (A1 == A2) = true := by simpa using hA
    by_cases hB : B1 = B2
    · have fB : (B1 == B2) = true := by simpa using hB
      by_cases hC : C1 = C2
      · have fC : (C1 == C2) = true := by simpa using hC
        clear hA hB hC
        go_enter Try.func10, Try.ntmps10
        obtain ⟨⟨t0, t1, t2, t3⟩, _, _⟩ := HBX.out.1.t.cells
        obtain ⟨c0, c1, c2⟩ := act_cells HBX.out.1.q
        go_wp2_with fail
        refine HP.out.mono ?_
        rintro e w4 ⟨gs4, cap4, rfl, h4, k4⟩
        have HB4 := Lib.hid (HBX.out.1.told k4 HG.out.1 HG.out.2)
        have HR4 : Hid (RTab B w4 (rtabV a T2.list.length c T2) T2) := Lib.hid (((by rw [hv0]; exact H2.out : RTab B w (rtabV a T2.list.length c T2) T2).below HBX.out.2).keptTK H1.out k4)
        have HT4 := Lib.hid (And.intro h4 ((TKeeps.of_below HBX.out.2).trans k4))
        have hB4 : B ≤ w4.heap.size := Nat.le_trans HBW.out (Nat.le_trans HBX.out.2.size k4.size)
        have HQ4 := Lib.hid (HQ.out w4 HR4 hB4)
        clear t0 t1 t2 t3 c0 c1 c2 h4 k4 HQ hw1 hw2 hw3 hg0 hg1 hg2 hB4
        obtain ⟨⟨t0, t1, t2, t3⟩, _, _⟩ := HB4.out.t.cells
        obtain ⟨c0, c1, c2⟩ := act_cells HB4.out.q
        go_wp2_with fail
        refine HQ4.out.mono ?_
        rintro e w5 ⟨v5, rfl, hr5, b5⟩
        obtain ⟨a5, c5, rfl, ho5, ok5⟩ := hr5
        have HR5 := Lib.hid (show RTab B w5 (rtabV a5 S2.list.length c5 S2) S2 from ⟨a5, c5, rfl, ho5, ok5⟩)
        unfold rtabV
        have kx := below_box w5 (.cells #[.slice a5 S2.list.length c5, .int .i64 S2.most, .int .i64 S2.last, .int .i64 S2.now] 28)
        have nx : BoxR _ w5.heap.size _ _ _ _ := heap_alloc_new w5 (.cells #[.slice a5 S2.list.length c5, .int .i64 S2.most, .int .i64 S2.last, .int .i64 S2.now] 28)
        obtain ⟨w6, hw6⟩ : ∃ X, w5.alloc (.cells #[.slice a5 S2.list.length c5, .int .i64 S2.most, .int .i64 S2.last, .int .i64 S2.now] 28) = X := ⟨_, rfl⟩
        rw [hw6] at kx nx
        have HB6 := Lib.hid ((HB4.out.below b5).below kx)
        have HK6 := Lib.hid (below_next b5 kx)
        have HR6 := Lib.hid (HR5.out.below kx)
        obtain ⟨⟨z0, z1, z2, z3⟩, _, _⟩ := nx.cells
        clear t0 t1 t2 t3 c0 c1 c2 b5 kx nx ho5 ok5 HQ4
        obtain ⟨⟨r0, r1, r2, r3⟩, rf, W', hW', HF⟩ := HB6.out.fin (.slice a5 S2.list.length c5) S2.most S2.last S2.now
        go_wp2
        refine bodyPost_ret (results_rt2 rfl _ _ g2 rfl HF.out.1) rfl ?_
        exact do22_fin HT4.out.1 HT4.out.2 HK6.out HR6.out HF.out.2 HB6.out.r (by have := HB6.out.g; omega) (by intro _; rfl)
      · have fC : (C1 == C2) = false := by simpa using hC
        have HNE : Hid (¬ ((S1, A1, B1, C1) = ((S2, A2, B2, C2) : TabD × Int × Int × Int))) := Lib.hid (by intro e; simp only [Prod.mk.injEq] at e; exact hC (by obtain ⟨_, eA, eB, eC⟩ := e; exact eC))
        clear hA hB hC
        go_enter Try.func10, Try.ntmps10
        obtain ⟨⟨t0, t1, t2, t3⟩, _, _⟩ := HBX.out.1.t.cells
        obtain ⟨c0, c1, c2⟩ := act_cells HBX.out.1.q
        go_wp2_with fail
        refine HP.out.mono ?_
        rintro e w4 ⟨gs4, cap4, rfl, h4, k4⟩
        have HB4 := Lib.hid (HBX.out.1.told k4 HG.out.1 HG.out.2)
        have HR4 : Hid (RTab B w4 (rtabV a T2.list.length c T2) T2) := Lib.hid (((by rw [hv0]; exact H2.out : RTab B w (rtabV a T2.list.length c T2) T2).below HBX.out.2).keptTK H1.out k4)
        have HT4 := Lib.hid (And.intro h4 ((TKeeps.of_below HBX.out.2).trans k4))
        have hB4 : B ≤ w4.heap.size := Nat.le_trans HBW.out (Nat.le_trans HBX.out.2.size k4.size)
        have HQ4 := Lib.hid (HQ.out w4 HR4 hB4)
        clear t0 t1 t2 t3 c0 c1 c2 h4 k4 HQ hw1 hw2 hw3 hg0 hg1 hg2 hB4
        obtain ⟨⟨t0, t1, t2, t3⟩, _, _⟩ := HB4.out.t.cells
        obtain ⟨c0, c1, c2⟩ := act_cells HB4.out.q
        go_wp2_with fail
        refine HQ4.out.mono ?_
        rintro e w5 ⟨v5, rfl, hr5, b5⟩
        obtain ⟨a5, c5, rfl, ho5, ok5⟩ := hr5
        have HR5 := Lib.hid (show RTab B w5 (rtabV a5 S2.list.length c5 S2) S2 from ⟨a5, c5, rfl, ho5, ok5⟩)
        unfold rtabV
        have kx := below_box w5 (.cells #[.slice a5 S2.list.length c5, .int .i64 S2.most, .int .i64 S2.last, .int .i64 S2.now] 28)
        have nx : BoxR _ w5.heap.size _ _ _ _ := heap_alloc_new w5 (.cells #[.slice a5 S2.list.length c5, .int .i64 S2.most, .int .i64 S2.last, .int .i64 S2.now] 28)
        obtain ⟨w6, hw6⟩ : ∃ X, w5.alloc (.cells #[.slice a5 S2.list.length c5, .int .i64 S2.most, .int .i64 S2.last, .int .i64 S2.now] 28) = X := ⟨_, rfl⟩
        rw [hw6] at kx nx
        have HB6 := Lib.hid ((HB4.out.below b5).below kx)
        have HK6 := Lib.hid (below_next b5 kx)
        have HR6 := Lib.hid (HR5.out.below kx)
        obtain ⟨⟨z0, z1, z2, z3⟩, _, _⟩ := nx.cells
        clear t0 t1 t2 t3 c0 c1 c2 b5 kx nx ho5 ok5 HQ4
        obtain ⟨⟨r0, r1, r2, r3⟩, rf, W', hW', HF⟩ := HB6.out.fin (.slice a5 S2.list.length c5) S2.most S2.last S2.now
        go_wp2
        refine bodyPost_ret (results_rt2 rfl _ _ g2 rfl HF.out.1) rfl ?_
        exact do22_fin HT4.out.1 HT4.out.2 HK6.out HR6.out HF.out.2 HB6.out.r (by have := HB6.out.g; omega) (by intro e; exact absurd (HE.out e) HNE.out)
    · have fB : (B1 == B2) = false := by simpa using hB
      have HNE : Hid (¬ ((S1, A1, B1, C1) = ((S2, A2, B2, C2) : TabD × Int × Int × Int))) := Lib.hid (by intro e; simp only [Prod.mk.injEq] at e; exact hB (by obtain ⟨_, eA, eB, eC⟩ := e; exact eB))
      clear hA hB
      go_enter Try.func10, Try.ntmps10
      obtain ⟨⟨t0, t1, t2, t3⟩, _, _⟩ := HBX.out.1.t.cells
      obtain ⟨c0, c1, c2⟩ := act_cells HBX.out.1.q
      go_wp2_with fail
      refine HP.out.mono ?_
      rintro e w4 ⟨gs4, cap4, rfl, h4, k4⟩
      have HB4 := Lib.hid (HBX.out.1.told k4 HG.out.1 HG.out.2)
      have HR4 : Hid (RTab B w4 (rtabV a T2.list.length c T2) T2) := Lib.hid (((by rw [hv0]; exact H2.out : RTab B w (rtabV a T2.list.length c T2) T2).below HBX.out.2).keptTK H1.out k4)
      have HT4 := Lib.hid (And.intro h4 ((TKeeps.of_below HBX.out.2).trans k4))
      have hB4 : B ≤ w4.heap.size := Nat.le_trans HBW.out (Nat.le_trans HBX.out.2.size k4.size)
      have HQ4 := Lib.hid (HQ.out w4 HR4 hB4)
      clear t0 t1 t2 t3 c0 c1 c2 h4 k4 HQ hw1 hw2 hw3 hg0 hg1 hg2 hB4
      obtain ⟨⟨t0, t1, t2, t3⟩, _, _⟩ := HB4.out.t.cells
      obtain ⟨c0, c1, c2⟩ := act_cells HB4.out.q
      go_wp2_with fail
      refine HQ4.out.mono ?_
      rintro e w5 ⟨v5, rfl, hr5, b5⟩
      obtain ⟨a5, c5, rfl, ho5, ok5⟩ := hr5
      have HR5 := Lib.hid (show RTab B w5 (rtabV a5 S2.list.length c5 S2) S2 from ⟨a5, c5, rfl, ho5, ok5⟩)
      unfold rtabV
      have kx := below_box w5 (.cells #[.slice a5 S2.list.length c5, .int .i64 S2.most, .int .i64 S2.last, .int .i64 S2.now] 28)
      have nx : BoxR _ w5.heap.size _ _ _ _ := heap_alloc_new w5 (.cells #[.slice a5 S2.list.length c5, .int .i64 S2.most, .int .i64 S2.last, .int .i64 S2.now] 28)
      obtain ⟨w6, hw6⟩ : ∃ X, w5.alloc (.cells #[.slice a5 S2.list.length c5, .int .i64 S2.most, .int .i64 S2.last, .int .i64 S2.now] 28) = X := ⟨_, rfl⟩
      rw [hw6] at kx nx
      have HB6 := Lib.hid ((HB4.out.below b5).below kx)
      have HK6 := Lib.hid (below_next b5 kx)
      have HR6 := Lib.hid (HR5.out.below kx)
      obtain ⟨⟨z0, z1, z2, z3⟩, _, _⟩ := nx.cells
      clear t0 t1 t2 t3 c0 c1 c2 b5 kx nx ho5 ok5 HQ4
      obtain ⟨⟨r0, r1, r2, r3⟩, rf, W', hW', HF⟩ := HB6.out.fin (.slice a5 S2.list.length c5) S2.most S2.last S2.now
      go_wp2
      refine bodyPost_ret (results_rt2 rfl _ _ g2 rfl HF.out.1) rfl ?_
      exact do22_fin HT4.out.1 HT4.out.2 HK6.out HR6.out HF.out.2 HB6.out.r (by have := HB6.out.g; omega) (by intro e; exact absurd (HE.out e) HNE.out)
  · have fA : (A1 == A2) = false := by simpa using hA
    have HNE : Hid (¬ ((S1, A1, B1, C1) = ((S2, A2, B2, C2) : TabD × Int × Int × Int))) := Lib.hid (by intro e; simp only [Prod.mk.injEq] at e; exact hA (by obtain ⟨_, eA, eB, eC⟩ := e; exact eA))
    clear hA
    go_enter Try.func10, Try.ntmps10
    obtain ⟨⟨t0, t1, t2, t3⟩, _, _⟩ := HBX.out.1.t.cells
    obtain ⟨c0, c1, c2⟩ := act_cells HBX.out.1.q
    go_wp2_with fail
    refine HP.out.mono ?_
    rintro e w4 ⟨gs4, cap4, rfl, h4, k4⟩
    have HB4 := Lib.hid (HBX.out.1.told k4 HG.out.1 HG.out.2)
    have HR4 : Hid (RTab B w4 (rtabV a T2.list.length c T2) T2) := Lib.hid (((by rw [hv0]; exact H2.out : RTab B w (rtabV a T2.list.length c T2) T2).below HBX.out.2).keptTK H1.out k4)
    have HT4 := Lib.hid (And.intro h4 ((TKeeps.of_below HBX.out.2).trans k4))
    have hB4 : B ≤ w4.heap.size := Nat.le_trans HBW.out (Nat.le_trans HBX.out.2.size k4.size)
    have HQ4 := Lib.hid (HQ.out w4 HR4 hB4)
    clear t0 t1 t2 t3 c0 c1 c2 h4 k4 HQ hw1 hw2 hw3 hg0 hg1 hg2 hB4
    obtain ⟨⟨t0, t1, t2, t3⟩, _, _⟩ := HB4.out.t.cells
    obtain ⟨c0, c1, c2⟩ := act_cells HB4.out.q
    go_wp2_with fail
    refine HQ4.out.mono ?_
    rintro e w5 ⟨v5, rfl, hr5, b5⟩
    obtain ⟨a5, c5, rfl, ho5, ok5⟩ := hr5
    have HR5 := Lib.hid (show RTab B w5 (rtabV a5 S2.list.length c5 S2) S2 from ⟨a5, c5, rfl, ho5, ok5⟩)
    unfold rtabV
    have kx := below_box w5 (.cells #[.slice a5 S2.list.length c5, .int .i64 S2.most, .int .i64 S2.last, .int .i64 S2.now] 28)
    have nx : BoxR _ w5.heap.size _ _ _ _ := heap_alloc_new w5 (.cells #[.slice a5 S2.list.length c5, .int .i64 S2.most, .int .i64 S2.last, .int .i64 S2.now] 28)
    obtain ⟨w6, hw6⟩ : ∃ X, w5.alloc (.cells #[.slice a5 S2.list.length c5, .int .i64 S2.most, .int .i64 S2.last, .int .i64 S2.now] 28) = X := ⟨_, rfl⟩
    rw [hw6] at kx nx
    have HB6 := Lib.hid ((HB4.out.below b5).below kx)
    have HK6 := Lib.hid (below_next b5 kx)
    have HR6 := Lib.hid (HR5.out.below kx)
    obtain ⟨⟨z0, z1, z2, z3⟩, _, _⟩ := nx.cells
    clear t0 t1 t2 t3 c0 c1 c2 b5 kx nx ho5 ok5 HQ4
    obtain ⟨⟨r0, r1, r2, r3⟩, rf, W', hW', HF⟩ := HB6.out.fin (.slice a5 S2.list.length c5) S2.most S2.last S2.now
    go_wp2
    refine bodyPost_ret (results_rt2 rfl _ _ g2 rfl HF.out.1) rfl ?_
    exact do22_fin HT4.out.1 HT4.out.2 HK6.out HR6.out HF.out.2 HB6.out.r (by have := HB6.out.g; omega) (by intro e; exact absurd (HE.out e) HNE.out)
set_option maxHeartbeats 1600000 in
theorem do22_3 {B : Nat} {w : World} {g gs cap : Nat} {v0 : Value} {T1 T2 : TabD} (h1 : IsTable B w g gs cap T1) (h2 : RTab B w v0 T2) (hB : B ≤ w.heap.size) (hI1 : TrInv T1) (hI2 : TrInv T2) (hl1 : T1.last < 1000000) (hl2 : T2.last < 1000000) (x y : Int) :
    Calls Try.prog 10 #[.pointer (some ⟨g, 0, none⟩), v0, .agg #[.int .i64 3, .int .i64 x, .int .i64 y]] w (Do22Post B w g gs T1 T2 (doF T1 3 x y) (doF T2 3 x y)) := by
  obtain ⟨a, c, rfl, ho, hok⟩ := id h2
  obtain ⟨v0, hv0⟩ : ∃ v, rtabV a T2.list.length c T2 = v := ⟨_, rfl⟩
  obtain ⟨w1, w2, w3, g0, g1, g2, hw1, hw2, hw3, hg0, hg1, hg2, HBX⟩ := doBx_new w (.slice a T2.list.length c) T2.most T2.last T2.now 3 x y
  have H1 : Hid (IsTable B w3 g gs cap T1) := Lib.hid (h1.below HBX.out.2)
  have H2 : Hid (RTab B w v0 T2) := Lib.hid (by rw [← hv0]; exact h2)
  have HG : Hid (g < w.heap.size ∧ gs < w.heap.size) := Lib.hid ⟨(table_lt h1).1, (table_lt h1).2.1⟩
  have HBW := Lib.hid hB
  have HI1 := Lib.hid hI1
  have HI2 := Lib.hid hI2
  have HLA := Lib.hid hl1
  have HLB := Lib.hid hl2
  clear h1 h2 ho hok hB hI1 hI2 hl1 hl2
  obtain ⟨p1, hp1⟩ : ∃ p, killF T1 x = p := ⟨_, rfl⟩
  obtain ⟨p2, hp2⟩ : ∃ p, killF T2 x = p := ⟨_, rfl⟩
  have HP := Lib.hid (pkill_is H1.out HI1.out.nodup x)
  have HQ := Lib.hid (fun (W : World) (HR4 : Hid (RTab B W (rtabV a T2.list.length c T2) T2)) (hB4 : B ≤ W.heap.size) => rkill_is HR4.out hB4 HI2.out.nodup x)
  have HE : Hid (T1 = T2 → p1 = p2) := Lib.hid (by intro e; rw [← hp1, ← hp2, e])
  have HD1 : Hid (doF T1 3 x y = p1.1) := Lib.hid (by rw [← hp1]; rfl)
  have HD2 : Hid (doF T2 3 x y = p2.1) := Lib.hid (by rw [← hp2]; rfl)
  rw [hp1] at HP
  simp only [hp2] at HQ
  rw [HD1.out, HD2.out]
  obtain ⟨S1, A1⟩ := p1
  obtain ⟨S2, A2⟩ := p2
  dsimp only at HP HQ HE HD1 HD2
  clear hp1 hp2 HD1 HD2
  unfold rtabV at HQ
  show Calls Try.prog 10 #[.pointer (some ⟨g, 0, none⟩), .agg #[.slice a T2.list.length c, .int .i64 T2.most, .int .i64 T2.last, .int .i64 T2.now], .agg #[.int .i64 3, .int .i64 x, .int .i64 y]] w _
  obtain ⟨z, hz⟩ : ∃ z, (A1 == A2) = z := ⟨_, rfl⟩
  have HZ : Hid (T1 = T2 → z = true) := Lib.hid (by intro e; have e9 := (Prod.mk.inj (HE.out e)).2; rw [← hz, e9]; simp)
  go_enter Try.func10, Try.ntmps10
  obtain ⟨⟨t0, t1, t2, t3⟩, _, _⟩ := HBX.out.1.t.cells
  obtain ⟨c0, c1, c2⟩ := act_cells HBX.out.1.q
  go_wp2_with fail
  refine HP.out.mono ?_
  rintro e w4 ⟨gs4, cap4, rfl, h4, k4⟩
  have HB4 := Lib.hid (HBX.out.1.told k4 HG.out.1 HG.out.2)
  have HR4 : Hid (RTab B w4 (rtabV a T2.list.length c T2) T2) := Lib.hid (((by rw [hv0]; exact H2.out : RTab B w (rtabV a T2.list.length c T2) T2).below HBX.out.2).keptTK H1.out k4)
  have HT4 := Lib.hid (And.intro h4 ((TKeeps.of_below HBX.out.2).trans k4))
  have hB4 : B ≤ w4.heap.size := Nat.le_trans HBW.out (Nat.le_trans HBX.out.2.size k4.size)
  have HQ4 := Lib.hid (HQ.out w4 HR4 hB4)
  clear t0 t1 t2 t3 c0 c1 c2 h4 k4 HQ hw1 hw2 hw3 hg0 hg1 hg2 hB4
  obtain ⟨⟨t0, t1, t2, t3⟩, _, _⟩ := HB4.out.t.cells
  obtain ⟨c0, c1, c2⟩ := act_cells HB4.out.q
  go_wp2_with fail
  refine HQ4.out.mono ?_
  rintro e w5 ⟨v5, rfl, hr5, b5⟩
  obtain ⟨a5, c5, rfl, ho5, ok5⟩ := hr5
  have HR5 := Lib.hid (show RTab B w5 (rtabV a5 S2.list.length c5 S2) S2 from ⟨a5, c5, rfl, ho5, ok5⟩)
  unfold rtabV
  have kx := below_box w5 (.cells #[.slice a5 S2.list.length c5, .int .i64 S2.most, .int .i64 S2.last, .int .i64 S2.now] 28)
  have nx : BoxR _ w5.heap.size _ _ _ _ := heap_alloc_new w5 (.cells #[.slice a5 S2.list.length c5, .int .i64 S2.most, .int .i64 S2.last, .int .i64 S2.now] 28)
  obtain ⟨w6, hw6⟩ : ∃ X, w5.alloc (.cells #[.slice a5 S2.list.length c5, .int .i64 S2.most, .int .i64 S2.last, .int .i64 S2.now] 28) = X := ⟨_, rfl⟩
  rw [hw6] at kx nx
  have HB6 := Lib.hid ((HB4.out.below b5).below kx)
  have HK6 := Lib.hid (below_next b5 kx)
  have HR6 := Lib.hid (HR5.out.below kx)
  obtain ⟨⟨z0, z1, z2, z3⟩, _, _⟩ := nx.cells
  clear t0 t1 t2 t3 c0 c1 c2 b5 kx nx ho5 ok5 HQ4
  obtain ⟨⟨r0, r1, r2, r3⟩, rf, W', hW', HF⟩ := HB6.out.fin (.slice a5 S2.list.length c5) S2.most S2.last S2.now
  go_wp2
  refine bodyPost_ret (results_rt2 rfl _ _ g2 rfl HF.out.1) rfl ?_
  exact do22_fin HT4.out.1 HT4.out.2 HK6.out HR6.out HF.out.2 HB6.out.r (by have := HB6.out.g; omega) (by exact HZ.out)
set_option maxHeartbeats 1600000 in
theorem do22_4 {B : Nat} {w : World} {g gs cap : Nat} {v0 : Value} {T1 T2 : TabD} (h1 : IsTable B w g gs cap T1) (h2 : RTab B w v0 T2) (hB : B ≤ w.heap.size) (hI1 : TrInv T1) (hI2 : TrInv T2) (hl1 : T1.last < 1000000) (hl2 : T2.last < 1000000) (x y : Int) :
    Calls Try.prog 10 #[.pointer (some ⟨g, 0, none⟩), v0, .agg #[.int .i64 4, .int .i64 x, .int .i64 y]] w (Do22Post B w g gs T1 T2 (doF T1 4 x y) (doF T2 4 x y)) := by
  obtain ⟨a, c, rfl, ho, hok⟩ := id h2
  obtain ⟨v0, hv0⟩ : ∃ v, rtabV a T2.list.length c T2 = v := ⟨_, rfl⟩
  obtain ⟨w1, w2, w3, g0, g1, g2, hw1, hw2, hw3, hg0, hg1, hg2, HBX⟩ := doBx_new w (.slice a T2.list.length c) T2.most T2.last T2.now 4 x y
  have H1 : Hid (IsTable B w3 g gs cap T1) := Lib.hid (h1.below HBX.out.2)
  have H2 : Hid (RTab B w v0 T2) := Lib.hid (by rw [← hv0]; exact h2)
  have HG : Hid (g < w.heap.size ∧ gs < w.heap.size) := Lib.hid ⟨(table_lt h1).1, (table_lt h1).2.1⟩
  have HBW := Lib.hid hB
  have HI1 := Lib.hid hI1
  have HI2 := Lib.hid hI2
  have HLA := Lib.hid hl1
  have HLB := Lib.hid hl2
  clear h1 h2 ho hok hB hI1 hI2 hl1 hl2
  obtain ⟨p1, hp1⟩ : ∃ p, sleepF T1 x y = p := ⟨_, rfl⟩
  obtain ⟨p2, hp2⟩ : ∃ p, sleepF T2 x y = p := ⟨_, rfl⟩
  have HP := Lib.hid (psleep_is H1.out HI1.out.nodup x y)
  have HQ := Lib.hid (fun (W : World) (HR4 : Hid (RTab B W (rtabV a T2.list.length c T2) T2)) (hB4 : B ≤ W.heap.size) => rsleep_is HR4.out hB4 HI2.out.nodup x y)
  have HE : Hid (T1 = T2 → p1 = p2) := Lib.hid (by intro e; rw [← hp1, ← hp2, e])
  have HD1 : Hid (doF T1 4 x y = p1.1) := Lib.hid (by rw [← hp1]; rfl)
  have HD2 : Hid (doF T2 4 x y = p2.1) := Lib.hid (by rw [← hp2]; rfl)
  rw [hp1] at HP
  simp only [hp2] at HQ
  rw [HD1.out, HD2.out]
  obtain ⟨S1, A1⟩ := p1
  obtain ⟨S2, A2⟩ := p2
  dsimp only at HP HQ HE HD1 HD2
  clear hp1 hp2 HD1 HD2
  unfold rtabV at HQ
  show Calls Try.prog 10 #[.pointer (some ⟨g, 0, none⟩), .agg #[.slice a T2.list.length c, .int .i64 T2.most, .int .i64 T2.last, .int .i64 T2.now], .agg #[.int .i64 4, .int .i64 x, .int .i64 y]] w _
  obtain ⟨z, hz⟩ : ∃ z, (A1 == A2) = z := ⟨_, rfl⟩
  have HZ : Hid (T1 = T2 → z = true) := Lib.hid (by intro e; have e9 := (Prod.mk.inj (HE.out e)).2; rw [← hz, e9]; simp)
  go_enter Try.func10, Try.ntmps10
  obtain ⟨⟨t0, t1, t2, t3⟩, _, _⟩ := HBX.out.1.t.cells
  obtain ⟨c0, c1, c2⟩ := act_cells HBX.out.1.q
  go_wp2_with fail
  refine HP.out.mono ?_
  rintro e w4 ⟨gs4, cap4, rfl, h4, k4⟩
  have HB4 := Lib.hid (HBX.out.1.told k4 HG.out.1 HG.out.2)
  have HR4 : Hid (RTab B w4 (rtabV a T2.list.length c T2) T2) := Lib.hid (((by rw [hv0]; exact H2.out : RTab B w (rtabV a T2.list.length c T2) T2).below HBX.out.2).keptTK H1.out k4)
  have HT4 := Lib.hid (And.intro h4 ((TKeeps.of_below HBX.out.2).trans k4))
  have hB4 : B ≤ w4.heap.size := Nat.le_trans HBW.out (Nat.le_trans HBX.out.2.size k4.size)
  have HQ4 := Lib.hid (HQ.out w4 HR4 hB4)
  clear t0 t1 t2 t3 c0 c1 c2 h4 k4 HQ hw1 hw2 hw3 hg0 hg1 hg2 hB4
  obtain ⟨⟨t0, t1, t2, t3⟩, _, _⟩ := HB4.out.t.cells
  obtain ⟨c0, c1, c2⟩ := act_cells HB4.out.q
  go_wp2_with fail
  refine HQ4.out.mono ?_
  rintro e w5 ⟨v5, rfl, hr5, b5⟩
  obtain ⟨a5, c5, rfl, ho5, ok5⟩ := hr5
  have HR5 := Lib.hid (show RTab B w5 (rtabV a5 S2.list.length c5 S2) S2 from ⟨a5, c5, rfl, ho5, ok5⟩)
  unfold rtabV
  have kx := below_box w5 (.cells #[.slice a5 S2.list.length c5, .int .i64 S2.most, .int .i64 S2.last, .int .i64 S2.now] 28)
  have nx : BoxR _ w5.heap.size _ _ _ _ := heap_alloc_new w5 (.cells #[.slice a5 S2.list.length c5, .int .i64 S2.most, .int .i64 S2.last, .int .i64 S2.now] 28)
  obtain ⟨w6, hw6⟩ : ∃ X, w5.alloc (.cells #[.slice a5 S2.list.length c5, .int .i64 S2.most, .int .i64 S2.last, .int .i64 S2.now] 28) = X := ⟨_, rfl⟩
  rw [hw6] at kx nx
  have HB6 := Lib.hid ((HB4.out.below b5).below kx)
  have HK6 := Lib.hid (below_next b5 kx)
  have HR6 := Lib.hid (HR5.out.below kx)
  obtain ⟨⟨z0, z1, z2, z3⟩, _, _⟩ := nx.cells
  clear t0 t1 t2 t3 c0 c1 c2 b5 kx nx ho5 ok5 HQ4
  obtain ⟨⟨r0, r1, r2, r3⟩, rf, W', hW', HF⟩ := HB6.out.fin (.slice a5 S2.list.length c5) S2.most S2.last S2.now
  go_wp2
  refine bodyPost_ret (results_rt2 rfl _ _ g2 rfl HF.out.1) rfl ?_
  exact do22_fin HT4.out.1 HT4.out.2 HK6.out HR6.out HF.out.2 HB6.out.r (by have := HB6.out.g; omega) (by exact HZ.out)
end Go.Proofs.Ytnengblmcfiajaa
