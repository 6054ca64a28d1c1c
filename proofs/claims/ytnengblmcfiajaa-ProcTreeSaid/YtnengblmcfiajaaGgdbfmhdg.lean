/- The document's table of processes: New, At, Live, Children. -/
import Derived.Test.YtnengblmcfiajaaGldiebidl
import Derived.BigQuiet
namespace Go.Proofs.Ytnengblmcfiajaa
open Go.RowKit Go.Sort
set_option linter.unusedVariables false
set_option linter.unusedSimpArgs false
set_option maxRecDepth 100000

/-- The document's table by value. -/
def rtabV (a : Option Addr) (n c : Nat) (T : TabD) : Value := .agg #[.slice a n c, .int .i64 T.most, .int .i64 T.last, .int .i64 T.now]
def RTab (B : Nat) (w : World) (v : Value) (T : TabD) : Prop := ∃ a c, v = rtabV a T.list.length c T ∧ OwnsR' B w 78 6 (.slice a T.list.length c) (procsV T.list) ∧ TabOk T
theorem RTab.below {B : Nat} {w w' : World} {v : Value} {T : TabD} (h : RTab B w v T) (b : Below w.heap.size w w') : RTab B w' v T := by
  obtain ⟨a, c, e, h1, h2⟩ := h
  exact ⟨a, c, e, h1.below b, h2⟩
theorem RTab.less {B B' : Nat} {w : World} {v : Value} {T : TabD} (h : RTab B w v T) (hB : B' ≤ B) : RTab B' w v T := by
  obtain ⟨a, c, e, h1, h2⟩ := h
  exact ⟨a, c, e, h1.less hB, h2⟩
theorem RTab.reads {B : Nat} {w : World} {v : Value} {T : TabD} (h : RTab B w v T) : ∃ a c, v = rtabV a T.list.length c T ∧ ReadsR w a 6 (procsV T.list) ∧ T.list.length ≤ c ∧ TabOk T := by
  obtain ⟨a, c, e, h1, h2⟩ := h
  obtain ⟨a2, c2, e2, hr, hl, _⟩ := h1.reads
  rw [procsV_length] at e2 hl
  cases e2
  exact ⟨a, c, e, hr, hl, h2⟩
theorem size_rtab : (Try.prog.info? 28).map (·.size) = some 4 := by kernel_rfl
theorem row_rtab : ∃ d, Try.prog.underlying 28 = some d ∧ d.isRow = true := by
  cases h : Try.prog.underlying 28 with
  | none => exact absurd h (by decide)
  | some d =>
    refine ⟨d, rfl, ?_⟩
    have : (Try.prog.underlying 28).map (·.isRow) = some true := by kernel_rfl
    rw [h] at this
    simpa using this
/-- A table in a box. -/
def BoxR (w : World) (g : Nat) (v : Value) (m l n : Int) : Prop := w.heap[g]? = some (.cells #[v, .int .i64 m, .int .i64 l, .int .i64 n] 28 (0, 0))
theorem BoxR.cells {w : World} {g : Nat} {v : Value} {m l n : Int} (h : BoxR w g v m l n) : (w.cell? ⟨g, 0, none⟩ = some v ∧ w.cell? ⟨g, 1, none⟩ = some (.int .i64 m) ∧ w.cell? ⟨g, 2, none⟩ = some (.int .i64 l) ∧ w.cell? ⟨g, 3, none⟩ = some (.int .i64 n)) ∧ (∀ j, w.frozen? ⟨g, j, none⟩ = false) ∧ g < w.heap.size :=
  ⟨⟨cell_atT h 0, cell_atT h 1, cell_atT h 2, cell_atT h 3⟩, frozen_atT h, (Array.getElem?_eq_some_iff.1 h).1⟩
theorem BoxR.kept {w w' : World} {g : Nat} {v : Value} {m l n : Int} (h : BoxR w g v m l n) {row : Option Nat} (k : w.grownBy w' row) (hne : some g ≠ row) : BoxR w' g v m l n := (k.block g h.cells.2.2 hne).trans h
theorem BoxR.below {w w' : World} {g : Nat} {v : Value} {m l n : Int} (h : BoxR w g v m l n) (b : Below w.heap.size w w') : BoxR w' g v m l n := (b.block g h.cells.2.2).trans h
theorem BoxR.set4 {w : World} {g : Nat} {v : Value} {m l n : Int} (h : BoxR w g v m l n) (v' : Value) (m' l' n' : Int) :
    BoxR ((((w.setCell ⟨g, 0, none⟩ v').setCell ⟨g, 1, none⟩ (.int .i64 m')).setCell ⟨g, 2, none⟩ (.int .i64 l')).setCell ⟨g, 3, none⟩ (.int .i64 n')) g v' m' l' n' ∧ w.grownBy ((((w.setCell ⟨g, 0, none⟩ v').setCell ⟨g, 1, none⟩ (.int .i64 m')).setCell ⟨g, 2, none⟩ (.int .i64 l')).setCell ⟨g, 3, none⟩ (.int .i64 n')) (some g) := by
  have h1 := heap_setCell_same w g 0 _ _ v' h
  have h2 := heap_setCell_same _ g 1 _ _ (.int .i64 m') h1
  have h3 := heap_setCell_same _ g 2 _ _ (.int .i64 l') h2
  have h4 := heap_setCell_same _ g 3 _ _ (.int .i64 n') h3
  exact ⟨h4, grown_transT (grown_transT (grown_transT (grown_setCellT w ⟨g, 0, none⟩ v') (grown_setCellT _ ⟨g, 1, none⟩ _)) (grown_setCellT _ ⟨g, 2, none⟩ _)) (grown_setCellT _ ⟨g, 3, none⟩ _)⟩
theorem load_rtab {w : World} {g : Nat} {v : Value} {m l n : Int} (h : BoxR w g v m l n) : (loadVar 28 ⟨g, 0, none⟩).run Try.prog w = .ok (.agg #[v, .int .i64 m, .int .i64 l, .int .i64 n]) w := by
  obtain ⟨t, ht, hr⟩ := row_rtab
  refine run_loadVar_mid w g 0 28 [v, .int .i64 m, .int .i64 l, .int .i64 n] t (fun j x hx => ?_) ht hr size_rtab
  rw [Nat.zero_add]
  exact (cell_atT h j).trans (by rw [List.getElem?_toArray]; exact hx)
theorem results_rt1 {fn : Func} {p : Tmp} (h : fn.results = #[.cell p 28]) (tmps : Array Value) (w : World) (g : Nat) {v : Value} {m l n : Int} (hp : tmps.getD p undef = .pointer (some ⟨g, 0, none⟩)) (hf : BoxR w g v m l n) :
    (results fn tmps).run Try.prog w = .ok (.agg #[v, .int .i64 m, .int .i64 l, .int .i64 n]) w := by
  have e1 : (results fn tmps).run Try.prog w = ((asAddr (tmps.getD p undef)).run Try.prog w).andThen fun a w₁ => (loadVar 28 a).run Try.prog w₁ := by
    simp only [results, h]
    simp [Sem.run_bind, Result.andThen]
  rw [e1, hp]
  simp only [asAddr, Sem.run_pure, Result.andThen_ok, load_rtab hf]
theorem results_rt2 {fn : Func} {p x : Tmp} (h : fn.results = #[.cell p 28, .tmp x]) (tmps : Array Value) (w : World) (g : Nat) {v : Value} {m l n : Int} (hp : tmps.getD p undef = .pointer (some ⟨g, 0, none⟩)) (hf : BoxR w g v m l n) :
    (results fn tmps).run Try.prog w = .ok (.tuple #[.agg #[v, .int .i64 m, .int .i64 l, .int .i64 n], tmps.getD x undef]) w := by
  have e1 : (results fn tmps).run Try.prog w = ((asAddr (tmps.getD p undef)).run Try.prog w).andThen fun a w₁ => ((loadVar 28 a).run Try.prog w₁).andThen fun v w₂ => .ok (.tuple #[v, tmps.getD x undef]) w₂ := by
    simp only [results, h]
    simp [Sem.run_bind, Result.andThen]
  rw [e1, hp]
  simp only [asAddr, Sem.run_pure, Result.andThen_ok, load_rtab hf]
theorem results_rt3 {fn : Func} {p x y : Tmp} (h : fn.results = #[.cell p 28, .tmp x, .tmp y]) (tmps : Array Value) (w : World) (g : Nat) {v : Value} {m l n : Int} (hp : tmps.getD p undef = .pointer (some ⟨g, 0, none⟩)) (hf : BoxR w g v m l n) :
    (results fn tmps).run Try.prog w = .ok (.tuple #[.agg #[v, .int .i64 m, .int .i64 l, .int .i64 n], tmps.getD x undef, tmps.getD y undef]) w := by
  have e1 : (results fn tmps).run Try.prog w = ((asAddr (tmps.getD p undef)).run Try.prog w).andThen fun a w₁ => ((loadVar 28 a).run Try.prog w₁).andThen fun v w₂ => .ok (.tuple #[v, tmps.getD x undef, tmps.getD y undef]) w₂ := by
    simp only [results, h]
    simp [Sem.run_bind, Result.andThen]
  rw [e1, hp]
  simp only [asAddr, Sem.run_pure, Result.andThen_ok, load_rtab hf]
theorem results_rt4 {fn : Func} {p x y z : Tmp} (h : fn.results = #[.cell p 28, .tmp x, .tmp y, .tmp z]) (tmps : Array Value) (w : World) (g : Nat) {v : Value} {m l n : Int} (hp : tmps.getD p undef = .pointer (some ⟨g, 0, none⟩)) (hf : BoxR w g v m l n) :
    (results fn tmps).run Try.prog w = .ok (.tuple #[.agg #[v, .int .i64 m, .int .i64 l, .int .i64 n], tmps.getD x undef, tmps.getD y undef, tmps.getD z undef]) w := by
  have e1 : (results fn tmps).run Try.prog w = ((asAddr (tmps.getD p undef)).run Try.prog w).andThen fun a w₁ => ((loadVar 28 a).run Try.prog w₁).andThen fun v w₂ => .ok (.tuple #[v, tmps.getD x undef, tmps.getD y undef, tmps.getD z undef]) w₂ := by
    simp only [results, h]
    simp [Sem.run_bind, Result.andThen]
  rw [e1, hp]
  simp only [asAddr, Sem.run_pure, Result.andThen_ok, load_rtab hf]
theorem rtnew_after (w : World) (m : Int) (hm : 1 ≤ m ∧ m ≤ 16) : ∃ W, (w.alloc (.cells #[.slice (some ⟨w.heap.size + 1, 0, none⟩) 1 1, .int .i64 m, .int .i64 1, .int .i64 0] 28)).alloc (.cells #[.int .i64 1, .int .i64 0, .int .i64 1, .int .i64 0, .int .i64 0, .bool false] 78) = W ∧
    BoxR W w.heap.size (.slice (some ⟨w.heap.size + 1, 0, none⟩) 1 1) m 1 0 ∧ RTab w.heap.size W (rtabV (some ⟨w.heap.size + 1, 0, none⟩) 1 1 (newT m)) (newT m) ∧ Below w.heap.size w W := by
  obtain ⟨w1, hw1⟩ : ∃ x, w.alloc (.cells #[.slice (some ⟨w.heap.size + 1, 0, none⟩) 1 1, .int .i64 m, .int .i64 1, .int .i64 0] 28) = x := ⟨_, rfl⟩
  have hs : w1.heap.size = w.heap.size + 1 := by rw [← hw1]; simp
  have b1 : Below w.heap.size w w1 := by rw [← hw1]; exact below_box _ _
  have n1 : BoxR w1 w.heap.size (.slice (some ⟨w.heap.size + 1, 0, none⟩) 1 1) m 1 0 := by rw [← hw1]; exact heap_alloc_new w _
  rw [hw1]
  refine ⟨_, rfl, n1.below (below_box _ _), ⟨some ⟨w.heap.size + 1, 0, none⟩, 1, rfl, ?_, hm.1, hm.2, Nat.le_refl _, show 1 ≤ 16 by decide, show (0 : Int) ≤ 0 by decide, show (0 : Int) ≤ 1099511627776 by decide, show (0 : Int) ≤ 1 by decide⟩, below_next b1 (below_box _ _)⟩
  have h := OwnsR'.new (B := w.heap.size) (w := w1) (e := 78) (k := 6) (l := procsV [firstProc]) (procs_rows _) (by omega) (by unfold maxLen; decide) (cs := #[.int .i64 1, .int .i64 0, .int .i64 1, .int .i64 0, .int .i64 0, .bool false]) rfl
  rw [hs] at h
  exact h
theorem rtnew_is (n m : Int) (hm : min (max n 1) 16 = m) (w : World) : Calls Try.prog 8 #[.int .i64 n] w fun e w' => ∃ v, e = .returned v ∧ RTab w.heap.size w' v (newT m) ∧ Below w.heap.size w w' := by
  have hm1 : 1 ≤ m ∧ m ≤ 16 := by omega
  obtain ⟨W, hW, hb, ht, hB⟩ := rtnew_after w m hm1
  have HB := Lib.hid (And.intro hb (And.intro ht hB))
  have HW := Lib.hid hW
  clear hb ht hB hW
  by_cases h1 : n < 1
  · have h2 : ¬ (1 : Int) > 16 := by decide
    obtain rfl : m = 1 := by omega
    clear hm1 hm
    go_enter Try.func8, Try.ntmps8
    go_wp2
    rw [HW.out]
    exact bodyPost_ret (results_rt1 rfl _ _ w.heap.size rfl HB.out.1) rfl ⟨_, rfl, HB.out.2.1, HB.out.2.2⟩
  · by_cases h2 : n > 16
    · obtain rfl : m = 16 := by omega
      clear hm1 hm
      go_enter Try.func8, Try.ntmps8
      go_wp2
      rw [HW.out]
      exact bodyPost_ret (results_rt1 rfl _ _ w.heap.size rfl HB.out.1) rfl ⟨_, rfl, HB.out.2.1, HB.out.2.2⟩
    · obtain rfl : m = n := by omega
      clear hm1 hm
      go_enter Try.func8, Try.ntmps8
      go_wp2
      rw [HW.out]
      exact bodyPost_ret (results_rt1 rfl _ _ w.heap.size rfl HB.out.1) rfl ⟨_, rfl, HB.out.2.1, HB.out.2.2⟩
set_option maxHeartbeats 1600000 in
theorem rat_is (most last now : Int) (a : Option Addr) (c : Nat) (l : List ProcD) (n : Int) (w : World) (hr : ReadsR w a 6 (procsV l)) (hl : l.length ≤ 16) :
    Calls Try.prog 79 #[.agg #[.slice a l.length c, .int .i64 most, .int .i64 last, .int .i64 now], .int .i64 n] w fun e w' => e = .returned (.int .i64 (findI l n)) ∧ Below w.heap.size w w' := by
  have b0 := below_box w (.cells #[.slice a l.length c, .int .i64 most, .int .i64 last, .int .i64 now] 28)
  have n0 := heap_alloc_new w (.cells #[.slice a l.length c, .int .i64 most, .int .i64 last, .int .i64 now] 28)
  have HR := Lib.hid (hr.below b0)
  obtain ⟨L, hL⟩ : ∃ L, l.length = L := ⟨_, rfl⟩
  have HL := Lib.hid hL
  rw [hL] at b0 n0 HR hl ⊢
  obtain ⟨z, hz⟩ : ∃ z, findI l n = z := ⟨_, rfl⟩
  have HZ := Lib.hid hz
  rw [hz]
  have HB0 := Lib.hid b0
  obtain ⟨bp, hbp⟩ : ∃ x, w.heap.size = x := ⟨_, rfl⟩
  have c0 := cell_atT n0 0
  rw [hbp] at c0 HB0
  have HC0 := Lib.hid c0
  clear hr hz b0 n0 hL c0
  go_enter Try.func79, Try.ntmps79
  obtain ⟨w1, hw1⟩ : ∃ x, w.alloc (.cells #[.slice a L c, .int .i64 most, .int .i64 last, .int .i64 now] 28) = x := ⟨_, rfl⟩
  rw [hw1] at HR HB0 HC0
  try rw [hw1]
  go_wp2
  go_loopw [5] (fun i wr => ∃ k : Nat, k ≤ L ∧ i = .int .i64 k ∧ Hid (placesL (pidB n) l k = []) ∧ Hid (wr = w1)) (fun i _ => L - (intOf i).toNat)
  case atStart => exact ⟨0, Nat.zero_le _, rfl, Lib.hid rfl, Lib.hid rfl⟩
  case round =>
    obtain ⟨k, hk, rfl, HO, HW⟩ := hrel
    clear hw1
    obtain rfl := HW.out
    have c0 := HC0.out
    have hx1 : (0 : Int) ≤ (k : Int) := by omega
    by_cases hlt : k < L
    · obtain ⟨u, hrow⟩ : ∃ r, l[k]? = some r := ⟨_, List.getElem?_eq_getElem (by rw [HL.out]; exact hlt)⟩
      have HROW := Lib.hid hrow
      obtain ⟨b, off, rfl, hb, hc⟩ := HR.out.row (procsV_get hrow)
      have d0 : wr.cell? ⟨b, off + k * 6, none⟩ = some (.int .i64 u.pid) := hc 0 _ rfl
      have hx2 : (k : Int) < (L : Int) := by omega
      have HLT := Lib.hid hlt
      clear hc hrow hb hlt
      by_cases hu : u.pid = n
      · have hq : (u.pid == n) = true := by simpa using hu
        have HE : Hid (z = (k : Int)) := Lib.hid (by rw [← HZ.out]; exact firstI_hit HO.out HROW.out (decide_eq_true hu))
        clear hu
        go_wp2
        go_ret
        exact ⟨ret_int HE.out.symm, HB0.out⟩
      · have hq : (u.pid == n) = false := by simpa using hu
        have HNX := Lib.hid ((placesL_no HROW.out (show pidB n u = false from decide_eq_false hu)).trans HO.out)
        clear hu
        go_wp2
        have h9 := HLT.out
        go_roundw
        case rel => exact ⟨k + 1, HLT.out, by go_num, HNX, Lib.hid trivial⟩
        case measure => simp [intOf]; omega
    · obtain rfl : k = L := by omega
      have hx2 : ¬ (k : Int) < (k : Int) := by omega
      have HE : Hid (z = -1) := Lib.hid (by rw [← HZ.out]; unfold findI firstI; rw [HL.out, HO.out])
      clear hlt hk
      go_wp2
      go_ret
      exact ⟨ret_int HE.out.symm, HB0.out⟩
set_option maxHeartbeats 1600000 in
theorem rlive_is {B : Nat} {w : World} {v : Value} {T : TabD} (h : RTab B w v T) (n : Int) :
    Calls Try.prog 76 #[v, .int .i64 n] w fun e w' => e = .returned (.int .i64 (if goneB T n = true then 18 else 0)) ∧ Below w.heap.size w w' := by
  obtain ⟨a, c, rfl, hr, hc, o1, o2, o3, o4, o5, o6, o7⟩ := h.reads
  have b0 := below_box w (.cells #[.slice a T.list.length c, .int .i64 T.most, .int .i64 T.last, .int .i64 T.now] 28)
  have n0 : BoxR _ _ _ _ _ _ := heap_alloc_new w (.cells #[.slice a T.list.length c, .int .i64 T.most, .int .i64 T.last, .int .i64 T.now] 28)
  obtain ⟨w1, hw1⟩ : ∃ x, w.alloc (.cells #[.slice a T.list.length c, .int .i64 T.most, .int .i64 T.last, .int .i64 T.now] 28) = x := ⟨_, rfl⟩
  rw [hw1] at b0 n0
  have HAT := Lib.hid (rat_is T.most T.last T.now a c T.list n w1 (hr.below b0) o4)
  have HBX := Lib.hid n0
  have HB0 := Lib.hid b0
  have HR := Lib.hid (hr.below b0)
  obtain ⟨L, hL⟩ : ∃ L, T.list.length = L := ⟨_, rfl⟩
  unfold rtabV
  rw [hL] at HAT HBX hw1 o4 ⊢
  obtain ⟨bp, hbp⟩ : ∃ x, w.heap.size = x := ⟨_, rfl⟩
  rw [hbp] at HBX
  obtain ⟨M1, hM1⟩ : ∃ x, T.most = x := ⟨_, rfl⟩
  obtain ⟨M2, hM2⟩ : ∃ x, T.last = x := ⟨_, rfl⟩
  obtain ⟨M3, hM3⟩ : ∃ x, T.now = x := ⟨_, rfl⟩
  rw [hM1, hM2, hM3] at HAT HBX hw1
  rw [hM1, hM2, hM3]
  have HNP : ∀ (i : Nat) (s : ProcD), Found T n i s → i < L := fun i s hf => by rw [← hL]; exact (List.getElem?_eq_some_iff.1 hf.2).1
  obtain ⟨⟨x0, x1, x2, x3⟩, _, _⟩ := HBX.out.cells
  clear hr hc b0 n0 h o1 o2 o3 o5 o6 o7 hL hM1 hM2 hM3
  rcases gone_cases T n with ⟨e, hn | ⟨i, s, hf, hs⟩⟩ | ⟨e, i, s, hf, hs, _⟩
  · rw [if_pos e]
    rw [hn] at HAT
    clear e hn HNP
    go_enter Try.func76, Try.ntmps76
    go_wp2_with fail
    refine HAT.out.mono ?_
    rintro e w2 ⟨rfl, b2⟩
    obtain ⟨⟨y0, y1, y2, y3⟩, _, _⟩ := (HBX.out.below b2).cells
    have HB2 := Lib.hid (below_next HB0.out b2)
    clear b2 x0 x1 x2 x3
    go_wp2
    go_ret
    exact ⟨rfl, HB2.out⟩
  · rw [if_pos e]
    rw [hf.1] at HAT
    have hi := HNP i s hf
    have HRW := Lib.hid (fun (W : World) (hW : Below w1.heap.size w1 W) => (HR.out.below hW).row (procsV_get hf.2))
    have hx0 : (0 : Int) ≤ (i : Int) := by omega
    have hx1 : (i : Int) < (L : Int) := by omega
    have hx2 : ¬ (i : Int) < 0 := by omega
    clear e hf HNP hi
    go_enter Try.func76, Try.ntmps76
    go_wp2_with fail
    refine HAT.out.mono ?_
    rintro e w2 ⟨rfl, b2⟩
    obtain ⟨⟨y0, y1, y2, y3⟩, _, _⟩ := (HBX.out.below b2).cells
    obtain ⟨b, off, rfl, hb, hcc⟩ := HRW.out w2 b2
    have r2 : w2.cell? ⟨b, off + i * 6 + 2, none⟩ = some (.int .i64 s.state) := by have := hcc 2 _ rfl; rwa [← Nat.add_assoc] at this
    rw [hs] at r2
    have HB2 := Lib.hid (below_next HB0.out b2)
    clear b2 x0 x1 x2 x3 hb hcc
    go_wp2
    go_ret
    exact ⟨rfl, HB2.out⟩
  · rw [if_neg (by rw [e]; decide)]
    rw [hf.1] at HAT
    have hi := HNP i s hf
    have HRW := Lib.hid (fun (W : World) (hW : Below w1.heap.size w1 W) => (HR.out.below hW).row (procsV_get hf.2))
    have hx0 : (0 : Int) ≤ (i : Int) := by omega
    have hx1 : (i : Int) < (L : Int) := by omega
    have hx2 : ¬ (i : Int) < 0 := by omega
    have hq : (s.state == 3) = false := by simpa using hs
    obtain ⟨q, hqq⟩ : ∃ x, s.state = x := ⟨_, rfl⟩
    have HQ := Lib.hid hqq
    rw [hqq] at hq
    clear e hf HNP hi hs hqq
    go_enter Try.func76, Try.ntmps76
    go_wp2_with fail
    refine HAT.out.mono ?_
    rintro e w2 ⟨rfl, b2⟩
    obtain ⟨⟨y0, y1, y2, y3⟩, _, _⟩ := (HBX.out.below b2).cells
    obtain ⟨b, off, rfl, hb, hcc⟩ := HRW.out w2 b2
    have r2 : w2.cell? ⟨b, off + i * 6 + 2, none⟩ = some (.int .i64 s.state) := by have := hcc 2 _ rfl; rwa [← Nat.add_assoc] at this
    rw [HQ.out] at r2
    have HB2 := Lib.hid (below_next HB0.out b2)
    clear b2 x0 x1 x2 x3 hb hcc
    go_wp2
    go_ret
    exact ⟨rfl, HB2.out⟩
end Go.Proofs.Ytnengblmcfiajaa
