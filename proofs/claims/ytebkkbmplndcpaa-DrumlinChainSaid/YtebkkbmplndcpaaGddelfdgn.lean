/- Processes: Wait, by its walk. -/
import Derived.Test.YtebkkbmplndcpaaGkpgmhhei
namespace Go.Proofs.Ytebkkbmplndcpaa
open Go.RowKit Go.Sort
set_option linter.unusedVariables false
set_option linter.unusedSimpArgs false
set_option maxRecDepth 100000

/-- The table's list is another slice. -/
theorem table_list {B : Nat} {w w1 : World} {g gs cap gs' cap' n' : Nat} {T : TabD} {l' : List ProcD} (h : IsTable B w g gs cap T) (hg : w.grownBy w1 (some gs)) (ho : OwnsR' B w1 40 6 (.slice (some ⟨gs', 0, none⟩) n' cap') (procsV l')) (hn : l'.length = n') (h1 : 1 ≤ n') (h2 : n' ≤ 16) :
    w1.heap[g]? = some (.cells #[.int .i64 T.most, .int .i64 T.last, .int .i64 T.now, .slice (some ⟨gs, 0, none⟩) T.list.length cap] 77 (0, 0)) ∧
    IsTable B (w1.setCell ⟨g, 3, none⟩ (.slice (some ⟨gs', 0, none⟩) n' cap')) g gs' cap' { T with list := l' } ∧ TKeeps g gs w (w1.setCell ⟨g, 3, none⟩ (.slice (some ⟨gs', 0, none⟩) n' cap')) := by
  have n1 := (hg.block g (table_lt h).1 (by intro e; exact h.apart (Option.some.inj e).symm)).trans h.1
  have hgc := grown_setCellT w1 ⟨g, 3, none⟩ (.slice (some ⟨gs', 0, none⟩) n' cap')
  have n2 := heap_setCell_same w1 g 3 _ _ (.slice (some ⟨gs', 0, none⟩) n' cap') n1
  subst hn
  have hne : gs' ≠ g := by intro e; exact ho.apartT n1 (by decide) (by rw [e]; rfl)
  obtain ⟨o1, o2, _, _, o5⟩ := h.2.2.2
  exact ⟨n1, ⟨n2, ho.kept hgc (.inr (by intro e; exact hne (Option.some.inj e))), h.2.2.1, o1, o2, h1, h2, o5⟩, (TKeeps.of_gs hg).trans (.of_g hgc)⟩
def zombieB (n : Int) (u : ProcD) : Bool := decide (u.state = 3) && decide (u.parent = n)
theorem enters_wait1 (args : Array Value) (w : World) : (callFunc 74 args).run Try.prog w = .ok (.enter 74 args) w := enters_of Try.func74 (by kernel_rfl) rfl args w
set_option maxHeartbeats 1600000 in
theorem zombie_pred {w : World} {bp : Nat} {n : Int} (hb : bp < w.heap.size) (h : w.cell? ⟨bp, 0, none⟩ = some (.int .i64 n)) : PredV 74 #[.pointer (some ⟨bp, 0, none⟩)] (fun s => .agg (procV s).toArray) (fun _ => True) (zombieB n) w := by
  intro W s _ hB
  have b0 := below_box W (.cells #[.int .i64 s.pid, .int .i64 s.parent, .int .i64 s.state, .int .i64 s.code, .int .i64 s.til, .bool s.killed] 40)
  have n0 := heap_alloc_new W (.cells #[.int .i64 s.pid, .int .i64 s.parent, .int .i64 s.state, .int .i64 s.code, .int .i64 s.til, .bool s.killed] 40)
  obtain ⟨W1, hW1⟩ : ∃ x, W.alloc (.cells #[.int .i64 s.pid, .int .i64 s.parent, .int .i64 s.state, .int .i64 s.code, .int .i64 s.til, .bool s.killed] 40) = x := ⟨_, rfl⟩
  rw [hW1] at b0 n0
  have hc := (b0.cell (p := ⟨bp, 0, none⟩) (Nat.lt_of_lt_of_le hb hB.size)).trans ((hB.cell (p := ⟨bp, 0, none⟩) hb).trans h)
  have x1 := cell_atT n0 1
  have x2 := cell_atT n0 2
  have HB0 := Lib.hid b0
  clear hB h hb n0 b0
  obtain ⟨st, hst⟩ : ∃ x, s.state = x := ⟨_, rfl⟩
  obtain ⟨pa, hpa⟩ : ∃ x, s.parent = x := ⟨_, rfl⟩
  show Calls Try.prog 74 #[.agg #[.int .i64 s.pid, .int .i64 s.parent, .int .i64 s.state, .int .i64 s.code, .int .i64 s.til, .bool s.killed], .pointer (some ⟨bp, 0, none⟩)] W fun e w' => e = .returned (.bool (decide (s.state = 3) && decide (s.parent = n))) ∧ Below W.heap.size W w'
  rw [hst, hpa] at hW1 ⊢
  have x1' : W1.cell? ⟨W.heap.size, 1, none⟩ = some (.int .i64 pa) := by rw [← hpa]; exact x1
  have x2' : W1.cell? ⟨W.heap.size, 2, none⟩ = some (.int .i64 st) := by rw [← hst]; exact x2
  clear x1 x2 hst hpa
  by_cases a1 : st = 3
  · have q1 : (st == 3) = true := by simpa using a1
    rw [decide_eq_true a1, Bool.true_and, ← beq_dec]
    clear a1
    go_enter Try.func74, Try.ntmps74
    go_wp2
    go_ret
    exact ⟨rfl, HB0.out⟩
  · have q1 : (st == 3) = false := by simpa using a1
    rw [decide_eq_false a1, Bool.false_and]
    clear a1
    go_enter Try.func74, Try.ntmps74
    go_wp2
    go_ret
    exact ⟨rfl, HB0.out⟩
set_option maxHeartbeats 1600000 in
theorem twait_no {B : Nat} {w : World} {g gs cap : Nat} {T : TabD} (h : IsTable B w g gs cap T) {n : Int} (hg : Gone T n) :
    Calls Try.prog 34 #[.pointer (some ⟨g, 0, none⟩), .int .i64 n] w (TPost B w g gs T (.tuple #[.int .i64 0, .int .i64 0, .int .i64 18])) := by
  have b0 := below_box w (.cells #[.int .i64 n] 3)
  have H := Lib.hid h
  have HF := Lib.hid (tLive_no (h.below b0) hg)
  have HB0 := Lib.hid b0
  clear h b0 hg
  go_enter Try.func34, Try.ntmps34
  go_wp2_with fail
  refine HF.out.mono ?_
  rintro e w1 ⟨rfl, b1⟩
  have HB := Lib.hid (below_next HB0.out b1)
  clear b1
  go_wp2
  go_ret3
  exact TPost.same H.out HB.out _
set_option maxHeartbeats 1600000 in
theorem twait_none {B : Nat} {w : World} {g gs cap : Nat} {T : TabD} (h : IsTable B w g gs cap T) {n : Int} {i : Nat} {s : ProcD} (hf : Found T n i s) (hs : s.state ≠ 3) (hch : thoseL (parentB n) T.list = []) :
    Calls Try.prog 34 #[.pointer (some ⟨g, 0, none⟩), .int .i64 n] w (TPost B w g gs T (.tuple #[.int .i64 0, .int .i64 0, .int .i64 17])) := by
  have b0 := below_box w (.cells #[.int .i64 n] 3)
  have n0 := heap_alloc_new w (.cells #[.int .i64 n] 3)
  have H := Lib.hid h
  have HF := Lib.hid (tLive_yes (h.below b0) hf hs)
  have HC := Lib.hid (fun (W : World) (hW : Below w.heap.size w W) => tchildren_is (h.below hW) n)
  rw [hch] at HC
  have HB0 := Lib.hid b0
  have HN0 := Lib.hid n0
  clear h b0 hf hs hch n0
  go_enter Try.func34, Try.ntmps34
  go_wp2_with fail
  refine HF.out.mono ?_
  rintro e w1 ⟨rfl, b1⟩
  have HB := Lib.hid (below_next HB0.out b1)
  have y0 := cell_atT ((b1.block w.heap.size (by simp)).trans HN0.out) 0
  clear b1
  go_wp2_with fail
  refine (HC.out w1 HB.out).mono ?_
  rintro e w2 ⟨v, rfl, ho, b2⟩
  obtain ⟨a, c, rfl, _, _, _⟩ := ho.reads
  have HB2 := Lib.hid (below_next HB.out b2)
  have hz : (intsV ([] : List Int)).length = 0 := rfl
  rw [hz]
  clear b2 ho y0 hz
  go_wp2
  go_ret3
  exact TPost.same H.out HB2.out _
set_option maxHeartbeats 1600000 in
theorem twait_busy {B : Nat} {w : World} {g gs cap : Nat} {T : TabD} (h : IsTable B w g gs cap T) {n : Int} {i : Nat} {s : ProcD} (hf : Found T n i s) (hs : s.state ≠ 3) (hch : thoseL (parentB n) T.list ≠ []) (hz : firstI (zombieB n) T.list = -1) :
    Calls Try.prog 34 #[.pointer (some ⟨g, 0, none⟩), .int .i64 n] w (TPost B w g gs T (.tuple #[.int .i64 0, .int .i64 0, .int .i64 15])) := by
  have b0 := below_box w (.cells #[.int .i64 n] 3)
  have n0 := heap_alloc_new w (.cells #[.int .i64 n] 3)
  have H := Lib.hid h
  have hlen := h.2.2.2.2.2.2.1
  have HF := Lib.hid (tLive_yes (h.below b0) hf hs)
  have HC := Lib.hid (fun (W : World) (hW : Below w.heap.size w W) => tchildren_is (h.below hW) n)
  obtain ⟨bp, hbp⟩ : ∃ x, w.heap.size = x := ⟨_, rfl⟩
  have HX := Lib.hid (fun (W : World) (hW : Below w.heap.size w W) (hb : W.heap[bp]? = some (.cells #[.int .i64 n] 3 (0, 0))) => index_proc T.list (some ⟨gs, 0, none⟩) cap W (table_reads (h.below hW)) (by omega) (fun _ => True) (fun _ _ => trivial) (zombieB n) 74 #[.pointer (some ⟨bp, 0, none⟩)] enters_wait1 (zombie_pred (Array.getElem?_eq_some_iff.1 hb).1 (cell_atT hb 0)))
  rw [hz] at HX
  have HCN : Hid ((intsV (thoseL (parentB n) T.list)).length ≠ 0) := Lib.hid (by rw [intsV_length]; intro e; exact hch (List.length_eq_zero_iff.1 e))
  obtain ⟨L, hL⟩ : ∃ L, T.list.length = L := ⟨_, rfl⟩
  have HR := Lib.hid (fun (W : World) (hW : Below w.heap.size w W) => (table_facts (h.below hW)).2.2.2)
  rw [hL] at HX HR
  have HB0 := Lib.hid b0
  have HN0 := Lib.hid n0
  clear h b0 hf hs hch n0 hz hL
  go_enter Try.func34, Try.ntmps34
  go_wp2_with fail
  refine HF.out.mono ?_
  rintro e w1 ⟨rfl, b1⟩
  have HB := Lib.hid (below_next HB0.out b1)
  have HN1 := Lib.hid ((b1.block w.heap.size (by simp)).trans HN0.out)
  rw [hbp] at HN1
  have y0 := cell_atT HN1.out 0
  clear b1
  go_wp2_with fail
  refine (HC.out w1 HB.out).mono ?_
  rintro e w2 ⟨v, rfl, ho, b2⟩
  obtain ⟨a, c, rfl, _, _, _⟩ := ho.reads
  have HB2 := Lib.hid (below_next HB.out b2)
  have HN2 := Lib.hid ((b2.block bp (Array.getElem?_eq_some_iff.1 HN1.out).1).trans HN1.out)
  obtain ⟨q, hq⟩ : ∃ x, (intsV (thoseL (parentB n) T.list)).length = x := ⟨_, rfl⟩
  rw [hq] at HCN ⊢
  have hq0 : ((q : Int) == 0) = false := by have := HCN.out; simp; omega
  have c3 := HR.out w2 HB2.out
  clear b2 ho y0 hq
  go_wp2_with fail
  refine (HX.out w2 HB2.out HN2.out).mono ?_
  rintro e w3 ⟨rfl, b3⟩
  have HB3 := Lib.hid (below_next HB2.out b3)
  clear b3 c3 hq0
  go_wp2
  go_ret3
  exact TPost.same H.out HB3.out _
set_option maxHeartbeats 1600000 in
theorem twait_yes {B : Nat} {w : World} {g gs cap : Nat} {T : TabD} (h : IsTable B w g gs cap T) {n : Int} {i : Nat} {s : ProcD} (hf : Found T n i s) (hs : s.state ≠ 3) (hch : thoseL (parentB n) T.list ≠ []) {k : Nat} {c : ProcD} (hz : firstI (zombieB n) T.list = (k : Int)) (hk : T.list[k]? = some c) (h2 : 2 ≤ T.list.length) :
    Calls Try.prog 34 #[.pointer (some ⟨g, 0, none⟩), .int .i64 n] w (TPost B w g gs { T with list := T.list.eraseIdx k } (.tuple #[.int .i64 c.pid, .int .i64 c.code, .int .i64 0])) := by
  have b0 := below_box w (.cells #[.int .i64 n] 3)
  have n0 := heap_alloc_new w (.cells #[.int .i64 n] 3)
  have H := Lib.hid h
  have hlen := h.2.2.2.2.2.2.1
  have hkl := (List.getElem?_eq_some_iff.1 hk).1
  have HF := Lib.hid (tLive_yes (h.below b0) hf hs)
  have HC := Lib.hid (fun (W : World) (hW : Below w.heap.size w W) => tchildren_is (h.below hW) n)
  obtain ⟨bp, hbp⟩ : ∃ x, w.heap.size = x := ⟨_, rfl⟩
  have HX := Lib.hid (fun (W : World) (hW : Below w.heap.size w W) (hb : W.heap[bp]? = some (.cells #[.int .i64 n] 3 (0, 0))) => index_proc T.list (some ⟨gs, 0, none⟩) cap W (table_reads (h.below hW)) (by omega) (fun _ => True) (fun _ _ => trivial) (zombieB n) 74 #[.pointer (some ⟨bp, 0, none⟩)] enters_wait1 (zombie_pred (Array.getElem?_eq_some_iff.1 hb).1 (cell_atT hb 0)))
  rw [hz] at HX
  have HCN : Hid ((intsV (thoseL (parentB n) T.list)).length ≠ 0) := Lib.hid (by rw [intsV_length]; intro e; exact hch (List.length_eq_zero_iff.1 e))
  obtain ⟨L, hL⟩ : ∃ L, T.list.length = L := ⟨_, rfl⟩
  have HR := Lib.hid (fun (W : World) (hW : Below w.heap.size w W) => (table_facts (h.below hW)).2.2.2)
  have HRW := Lib.hid (fun (W : World) (hW : Below w.heap.size w W) => table_row (h.below hW) hk)
  have HDL := Lib.hid (fun (W : World) (hW : Below w.heap.size w W) => tdelete_is (L := L) (by have := (h.below hW).2.1; rw [hL] at this; exact this) hL (by omega) k (k + 1) rfl (by omega))
  have HER : Hid ((T.list.eraseIdx k).length = L - 1 ∧ 1 ≤ L - 1 ∧ L - 1 ≤ 16) := Lib.hid ⟨by rw [List.length_eraseIdx_of_lt hkl, hL], by omega, by omega⟩
  rw [hL] at HX HR
  have hx0 : (0 : Int) ≤ (k : Int) := by omega
  have hx1 : (k : Int) < (L : Int) := by omega
  have hx2 : ¬ (k : Int) < 0 := by omega
  have hx3 : IntKind.i64.wrap ((k : Int) + 1) = ((k + 1 : Nat) : Int) := by rw [IntWalk.i64_in _ (by omega)]; omega
  have HB0 := Lib.hid b0
  have HN0 := Lib.hid n0
  obtain ⟨c0, c1, c2, c3, c4, c5⟩ := c
  clear h b0 hf hs hch n0 hz hL hk hkl h2 hlen
  go_enter Try.func34, Try.ntmps34
  go_wp2_with fail
  refine HF.out.mono ?_
  rintro e w1 ⟨rfl, b1⟩
  have HB := Lib.hid (below_next HB0.out b1)
  have HN1 := Lib.hid ((b1.block w.heap.size (by simp)).trans HN0.out)
  rw [hbp] at HN1
  have y0 := cell_atT HN1.out 0
  clear b1
  go_wp2_with fail
  refine (HC.out w1 HB.out).mono ?_
  rintro e w2 ⟨v, rfl, ho, b2⟩
  obtain ⟨a, cc, rfl, _, _, _⟩ := ho.reads
  have HB2 := Lib.hid (below_next HB.out b2)
  have HN2 := Lib.hid ((b2.block bp (Array.getElem?_eq_some_iff.1 HN1.out).1).trans HN1.out)
  obtain ⟨q, hq⟩ : ∃ x, (intsV (thoseL (parentB n) T.list)).length = x := ⟨_, rfl⟩
  rw [hq] at HCN ⊢
  have hq0 : ((q : Int) == 0) = false := by have := HCN.out; simp; omega
  have t3 := HR.out w2 HB2.out
  clear b2 ho y0 hq
  go_wp2_with fail
  refine (HX.out w2 HB2.out HN2.out).mono ?_
  rintro e w3 ⟨rfl, b3⟩
  have HB3 := Lib.hid (below_next HB2.out b3)
  clear b3 t3 hq0
  obtain ⟨r0, r1, r2, r3, r4, r5⟩ := HRW.out w3 HB3.out
  have t3 := HR.out w3 HB3.out
  have nb := heap_alloc_new w3 (.cells #[.int .i64 c0, .int .i64 c1, .int .i64 c2, .int .i64 c3, .int .i64 c4, .bool c5] 40)
  have bb := below_box w3 (.cells #[.int .i64 c0, .int .i64 c1, .int .i64 c2, .int .i64 c3, .int .i64 c4, .bool c5] 40)
  have t3b := HR.out _ (below_next HB3.out bb)
  obtain ⟨gx, hgx⟩ : ∃ x, w3.heap.size = x := ⟨_, rfl⟩
  obtain ⟨w4, hw4⟩ : ∃ x, w3.alloc (.cells #[.int .i64 c0, .int .i64 c1, .int .i64 c2, .int .i64 c3, .int .i64 c4, .bool c5] 40) = x := ⟨_, rfl⟩
  rw [hw4] at nb bb t3b
  rw [hgx] at nb
  have HB4 := Lib.hid (below_next HB3.out bb)
  have HNX := Lib.hid nb
  have HGX : Hid (gx ≠ gs ∧ gx ≠ g) := Lib.hid (by have h1 := table_lt (H.out.below HB3.out); rw [hgx] at h1; exact ⟨by omega, by omega⟩)
  clear nb bb
  go_wp2_with fail
  refine (HDL.out w4 HB4.out).mono ?_
  rintro e w5 ⟨rfl, ho5, hg5⟩
  clear r0 r1 r2 r3 r4 r5 t3 t3b hw4 hgx
  obtain ⟨n5, HT6, HK6⟩ := table_list (H.out.below HB4.out) hg5 ho5 HER.out.1 HER.out.2.1 HER.out.2.2
  have z3 := cell_atT n5 3
  have f3 := frozen_atT n5 3
  obtain ⟨w6, hw6⟩ : ∃ x, w5.setCell ⟨g, 3, none⟩ (.slice (some ⟨gs, 0, none⟩) (L - 1) cap) = x := ⟨_, rfl⟩
  rw [hw6] at HT6 HK6
  have n6 := (HK6.block gx (Array.getElem?_eq_some_iff.1 HNX.out).1 HGX.out.2 HGX.out.1).trans HNX.out
  have v0 := cell_atT n6 0
  have v3 := cell_atT n6 3
  have HTT := Lib.hid (And.intro HT6 HK6)
  clear HT6 HK6 n5 n6
  go_wp2
  try rw [hw6]
  clear hw6 z3 f3
  go_quiet (fail)
  go_wp2
  go_ret3
  exact ⟨gs, cap, rfl, HTT.out.1.below (below_drewN _ _), ((TKeeps.of_below HB4.out).trans HTT.out.2).trans (.of_below (below_drewN _ _))⟩
end Go.Proofs.Ytebkkbmplndcpaa
