/- The document's table of processes: Sleep. (Printed by wip/gen/rtr5.py.) -/
import Derived.Test.YtnengblmcfiajaaGjpgolngo
namespace Go.Proofs.Ytnengblmcfiajaa
open Go.RowKit Go.Sort
set_option linter.unusedVariables false
set_option linter.unusedSimpArgs false
set_option maxRecDepth 100000

theorem CopySt.slept {w W3 W : World} {g0 g1 g7 : Nat} {v : Value} {m la no : Int} {s : ProcD} (h : CopySt w W3 W g0 g1 g7 v m la no s) (x : Int) :
    ∃ W8, (W.setCell ⟨g7, 2, none⟩ (.int .i64 2)).setCell ⟨g7, 4, none⟩ (.int .i64 x) = W8 ∧ Hid (CopySt w W3 W8 g0 g1 g7 v m la no { s with state := 2, til := x }) := by
  have h2 := heap_setCell_same _ g7 2 _ _ (.int .i64 2) h.q
  have h3 := heap_setCell_same _ g7 4 _ _ (.int .i64 x) h2
  have k := grown_transT (grown_setCellT W ⟨g7, 2, none⟩ (.int .i64 2)) (grown_setCellT _ ⟨g7, 4, none⟩ (.int .i64 x))
  have hg := h.g
  have hw := h.bx.g
  exact ⟨_, rfl, Lib.hid ⟨h.bx.kept k (by show g0 ≠ g7; omega) (by show g1 ≠ g7; omega) (by show w.heap.size ≤ g7; omega), h3, h.g, h.b.grown k h.b.size (by intro j hj; obtain rfl := Option.some.inj hj; exact hg.2)⟩⟩
theorem CopySt.later {w W3 W : World} {g0 g1 g7 : Nat} {v : Value} {m la no : Int} {s : ProcD} (h : CopySt w W3 W g0 g1 g7 v m la no s) (x : Int) :
    ∃ W8, W.setCell ⟨g7, 4, none⟩ (.int .i64 x) = W8 ∧ Hid (CopySt w W3 W8 g0 g1 g7 v m la no { s with til := x }) := by
  have h3 := heap_setCell_same _ g7 4 _ _ (.int .i64 x) h.q
  have k := grown_setCellT W ⟨g7, 4, none⟩ (.int .i64 x)
  have hg := h.g
  have hw := h.bx.g
  exact ⟨_, rfl, Lib.hid ⟨h.bx.kept k (by show g0 ≠ g7; omega) (by show g1 ≠ g7; omega) (by show w.heap.size ≤ g7; omega), h3, h.g, h.b.grown k h.b.size (by intro j hj; obtain rfl := Option.some.inj hj; exact hg.2)⟩⟩
set_option maxHeartbeats 1600000 in
theorem rsleep_is {B : Nat} {w : World} {v : Value} {T : TabD} (h : RTab B w v T) (hB : B ≤ w.heap.size) (hnd : (pidsL T.list).Nodup) (n k : Int) :
    Calls Try.prog 41 #[v, .int .i64 n, .int .i64 k] w (RPost22 B w (sleepF T n k).1 [.int .i64 (sleepF T n k).2]) := by
  have H := Lib.hid h
  obtain ⟨a, c, rfl, hr, hc, o1, o2, o3, o4, o5, o6, o7⟩ := h.reads
  obtain ⟨w1, w2, g0, g1, hw1, hw2, hg0, hg1, HP⟩ := bx_new w (.slice a T.list.length c) T.most T.last T.now
  have HR := Lib.hid hr
  have HLV := Lib.hid (fun (W : World) (hW : Below w.heap.size w W) => rlive_is (H.out.below hW) n)
  have HOK := Lib.hid (show TabOk T from ⟨o1, o2, o3, o4, o5, o6, o7⟩)
  unfold sleepF
  rcases gone_cases T n with ⟨e, _⟩ | ⟨e, i, s, hf, hs, hp⟩
  · rw [if_pos e]
    simp only [e, if_true] at HLV
    unfold rtabV at H HLV ⊢
    clear e h hr hc o1 o2 o3 o4 o5 o6 o7 HR hnd
    go_enter Try.func41, Try.ntmps41
    obtain ⟨⟨t0, t1, t2, t3⟩, _, _⟩ := HP.out.t.cells
    go_wp2_with fail
    refine (HLV.out w2 HP.out.b).mono ?_
    rintro e w3 ⟨rfl, b3⟩
    have HP3 := Lib.hid (HP.out.below b3)
    clear t0 t1 t2 t3 b3
    obtain ⟨⟨t0, t1, t2, t3⟩, _, _⟩ := HP3.out.t.cells
    obtain ⟨⟨r0, r1, r2, r3⟩, rf, W', hW', HF⟩ := HP3.out.fin (.slice a T.list.length c) T.most T.last T.now
    go_wp2
    exact bodyPost_ret (results_rt2 rfl _ _ g1 rfl HF.out.1) rfl ⟨_, rfl, H.out.below HF.out.2.1, HF.out.2.1⟩
  · rw [if_neg (by rw [e]; decide), found_state hf hp]
    simp only [e, Bool.false_eq_true, if_false] at HLV
    by_cases h2 : s.state = 2
    · rw [if_pos h2]
      have h2b : (s.state == 2) = true := by simpa using h2
      clear h2
      have hil := (List.getElem?_eq_some_iff.1 hf.2).1
      have HFI := Lib.hid hf.1
      have HROW := Lib.hid hf.2
      have HPI := Lib.hid hp
      unfold rtabV at HLV ⊢
      clear e h hr hc o1 o2 o3 o5 o6 o7 hnd hf hs hp
      obtain ⟨l, hl⟩ : ∃ l, T.list = l := ⟨_, rfl⟩
      obtain ⟨L, hL⟩ : ∃ L, l.length = L := ⟨_, rfl⟩
      have HL := Lib.hid hL
      have HTL := Lib.hid hl
      rw [hl] at HFI HROW HR HP HLV hw1 hil o4 ⊢
      rw [hL] at HP HLV hw1 hil o4 ⊢
      obtain ⟨M1, hM1⟩ : ∃ x, T.most = x := ⟨_, rfl⟩
      obtain ⟨M2, hM2⟩ : ∃ x, T.last = x := ⟨_, rfl⟩
      obtain ⟨M3, hM3⟩ : ∃ x, T.now = x := ⟨_, rfl⟩
      rw [hM1, hM2, hM3] at HP HLV hw1
      rw [hM1, hM2, hM3]
      have HM := Lib.hid (And.intro hM1 (And.intro hM2 hM3))
      have hx0 : (0 : Int) ≤ (i : Int) := by omega
      have hx1 : (i : Int) < (L : Int) := by omega
      clear hl hL hM1 hM2 hM3
      go_enter Try.func41, Try.ntmps41
      obtain ⟨⟨t0, t1, t2, t3⟩, _, _⟩ := HP.out.t.cells
      go_wp2_with fail
      refine (HLV.out w2 HP.out.b).mono ?_
      rintro e w3 ⟨rfl, b3⟩
      have HP3 : Hid (CopyPre w w3 g0 g1 (.slice a L c) M1 M2 M3 a l) := Lib.hid ⟨HP.out.below b3, HR.out.below (below_next HP.out.b b3)⟩
      clear t0 t1 t2 t3 b3 HP HR HLV hw1 hw2 hg0 hg1
      obtain ⟨⟨t0, t1, t2, t3⟩, _, _⟩ := HP3.out.bx.t.cells
      go_upto_region 4 with fail
      obtain ⟨b, off, rfl, hb, hcc⟩ := HP3.out.rd.row (procsV_get HROW.out)
      have sb : ∀ (W : World), Below w3.heap.size w3 W → (W.cell? ⟨g0, 0, none⟩ = some (.slice (some ⟨b, off, none⟩) L c) ∧ W.cell? ⟨g0, 1, none⟩ = some (.int .i64 M1) ∧ W.cell? ⟨g0, 2, none⟩ = some (.int .i64 M2) ∧ W.cell? ⟨g0, 3, none⟩ = some (.int .i64 M3) ∧ W.cell? ⟨b, off + i * 6, none⟩ = some (.int .i64 s.pid) ∧ W.cell? ⟨b, off + i * 6 + 1, none⟩ = some (.int .i64 s.parent) ∧ W.cell? ⟨b, off + i * 6 + 2, none⟩ = some (.int .i64 s.state) ∧ W.cell? ⟨b, off + i * 6 + 3, none⟩ = some (.int .i64 s.code) ∧ W.cell? ⟨b, off + i * 6 + 4, none⟩ = some (.int .i64 s.til) ∧ W.cell? ⟨b, off + i * 6 + 5, none⟩ = some (.bool s.killed) ∧ Below w3.heap.size w3 W) := fun W k => by
        have hk := HP3.out.bx.t.below k
        have d : ∀ (j : Nat) (u : Value), (procV s)[j]? = some u → W.cell? ⟨b, off + i * 6 + j, none⟩ = some u := fun j u hu => by
          have h2 := hcc j u hu
          rw [← Nat.add_assoc] at h2
          exact (k.cell (p := ⟨b, off + i * 6 + j, none⟩) hb).trans h2
        exact ⟨hk.cells.1.1, hk.cells.1.2.1, hk.cells.1.2.2.1, hk.cells.1.2.2.2, d 0 _ rfl, d 1 _ rfl, d 2 _ rfl, d 3 _ rfl, d 4 _ rfl, d 5 _ rfl, k⟩
      have SB := Lib.hid sb
      have SN := Lib.hid (fun (W W' : World) (k : Below w3.heap.size w3 W) (k' : Below W.heap.size W W') => below_next k k')
      have HAT := Lib.hid (fun (W : World) (k : Below w3.heap.size w3 W) => by
        have := rat_is M1 M2 M3 (some ⟨b, off, none⟩) c l n W (HP3.out.below k).rd (by rw [HL.out]; exact o4)
        rw [HL.out, HFI.out] at this
        exact this)
      have HCA := Lib.hid (fun (W : World) (k : Below (w3.drew.alloc (.cells #[.int .i64 0, .int .i64 0, .int .i64 0, .int .i64 0, .int .i64 0, .bool false] 78)).heap.size (w3.drew.alloc (.cells #[.int .i64 0, .int .i64 0, .int .i64 0, .int .i64 0, .int .i64 0, .bool false] 78)) W) => by
        have hz : BoxQ W w3.heap.size zeroT := (show BoxQ _ w3.heap.size zeroT from heap_alloc_new w3.drew _).below k
        exact And.intro hz (HP3.out.copy (below_next (below_next (below_drew w3) (below_box w3.drew _)) k) (Nat.le_refl _) s zeroT hz))
      have HCB := Lib.hid (fun (W : World) (k : Below w3.drew.heap.size w3.drew W) => by
        have hz : BoxQ (W.alloc (.cells #[.int .i64 0, .int .i64 0, .int .i64 0, .int .i64 0, .int .i64 0, .bool false] 78)) W.heap.size zeroT := heap_alloc_new W _
        exact And.intro hz (HP3.out.copy2 (below_next (below_drew w3) k) s))
      clear sb hb hcc t0 t1 t2 t3
      go_cut [9] (fun v7 wc => ∃ g7, v7 = .pointer (some ⟨g7, 0, none⟩) ∧ Hid (CopySt w w3 wc g0 g1 g7 (.slice (some ⟨b, off, none⟩) L c) M1 M2 M3 s))
      case first =>
        go_region_held3 (fun W => W.cell? ⟨g0, 0, none⟩ = some (.slice (some ⟨b, off, none⟩) L c) ∧ W.cell? ⟨g0, 1, none⟩ = some (.int .i64 M1) ∧ W.cell? ⟨g0, 2, none⟩ = some (.int .i64 M2) ∧ W.cell? ⟨g0, 3, none⟩ = some (.int .i64 M3) ∧ W.cell? ⟨b, off + i * 6, none⟩ = some (.int .i64 s.pid) ∧ W.cell? ⟨b, off + i * 6 + 1, none⟩ = some (.int .i64 s.parent) ∧ W.cell? ⟨b, off + i * 6 + 2, none⟩ = some (.int .i64 s.state) ∧ W.cell? ⟨b, off + i * 6 + 3, none⟩ = some (.int .i64 s.code) ∧ W.cell? ⟨b, off + i * 6 + 4, none⟩ = some (.int .i64 s.til) ∧ W.cell? ⟨b, off + i * 6 + 5, none⟩ = some (.bool s.killed) ∧ Below w3.heap.size w3 W)
          (first | assumption | exact SB.out _ (Below.refl _ _) | exact SB.out _ (below_drew _) | exact SB.out _ bC | exact SB.out _ HF.out.b | exact SB.out _ (SN.out _ _ bC (below_box _ _)) | exact SB.out _ (SN.out _ _ (below_drew _) (below_box _ _)))
          ((go_at_call 79; (with_reducible refine (HAT.out _ (by first | exact And.right (And.right (And.right (And.right (And.right (And.right (And.right (And.right (And.right (And.right (by assumption)))))))))))).mono ?_); rintro e wi ⟨rfl, bi⟩; first | (obtain ⟨hz, W7, hW7, HF⟩ := HCA.out wi bi; have bC := SN.out _ _ (SN.out _ _ (below_drew _) (below_box _ _)) bi; obtain ⟨⟨z0, z1, z2, z3, z4, z5⟩, zf, _⟩ := hz.cells) | (obtain ⟨hz, hF⟩ := HCB.out wi bi; have HF := Lib.hid hF; clear hF; have bC := SN.out _ _ (below_drew _) bi; obtain ⟨⟨z0, z1, z2, z3, z4, z5⟩, zf, _⟩ := hz.cells)))
        all_goals
          go_wp2_with fail
          go_meet
          exact ⟨_, rfl, HF⟩
      case rest =>
        obtain ⟨g7, rfl, HC⟩ := hcut
        clear SB SN HAT HCA HCB
        obtain ⟨⟨q0, q1, q2, q3, q4, q5⟩, qf, _⟩ := HC.out.q.cells
        obtain ⟨⟨t0, t1, t2, t3⟩, _, _⟩ := HC.out.bx.t.cells
        obtain ⟨⟨r0, r1, r2, r3⟩, rf, W', hW', HF⟩ := HC.out.bx.fin (.slice (some ⟨b, off, none⟩) L c) M1 M2 M3
        go_wp2
        refine bodyPost_ret (results_rt2 rfl _ _ g1 rfl HF.out.1) rfl ⟨_, rfl, ?_, HF.out.2.1⟩
        have hh := H.out.below HF.out.2.1
        unfold rtabV at hh
        rw [HTL.out, HL.out, HM.out.1, HM.out.2.1, HM.out.2.2] at hh
        exact hh
    · rw [if_neg h2]
      have h2b : (s.state == 2) = false := by simpa using h2
      clear h2
      by_cases hk : k ≤ 0
      · rw [if_pos hk]
        have hk1 : k < 1 := by omega
        have hil := (List.getElem?_eq_some_iff.1 hf.2).1
        have HFI := Lib.hid hf.1
        have HROW := Lib.hid hf.2
        have HPI := Lib.hid hp
        unfold rtabV at HLV ⊢
        clear e h hr hc o1 o2 o3 o5 o6 o7 hnd hf hs hp
        obtain ⟨l, hl⟩ : ∃ l, T.list = l := ⟨_, rfl⟩
        obtain ⟨L, hL⟩ : ∃ L, l.length = L := ⟨_, rfl⟩
        have HL := Lib.hid hL
        have HTL := Lib.hid hl
        rw [hl] at HFI HROW HR HP HLV hw1 hil o4 ⊢
        rw [hL] at HP HLV hw1 hil o4 ⊢
        obtain ⟨M1, hM1⟩ : ∃ x, T.most = x := ⟨_, rfl⟩
        obtain ⟨M2, hM2⟩ : ∃ x, T.last = x := ⟨_, rfl⟩
        obtain ⟨M3, hM3⟩ : ∃ x, T.now = x := ⟨_, rfl⟩
        rw [hM1, hM2, hM3] at HP HLV hw1
        rw [hM1, hM2, hM3]
        have HM := Lib.hid (And.intro hM1 (And.intro hM2 hM3))
        have hx0 : (0 : Int) ≤ (i : Int) := by omega
        have hx1 : (i : Int) < (L : Int) := by omega
        clear hl hL hM1 hM2 hM3
        go_enter Try.func41, Try.ntmps41
        obtain ⟨⟨t0, t1, t2, t3⟩, _, _⟩ := HP.out.t.cells
        go_wp2_with fail
        refine (HLV.out w2 HP.out.b).mono ?_
        rintro e w3 ⟨rfl, b3⟩
        have HP3 : Hid (CopyPre w w3 g0 g1 (.slice a L c) M1 M2 M3 a l) := Lib.hid ⟨HP.out.below b3, HR.out.below (below_next HP.out.b b3)⟩
        clear t0 t1 t2 t3 b3 HP HR HLV hw1 hw2 hg0 hg1
        obtain ⟨⟨t0, t1, t2, t3⟩, _, _⟩ := HP3.out.bx.t.cells
        go_upto_region 4 with fail
        obtain ⟨b, off, rfl, hb, hcc⟩ := HP3.out.rd.row (procsV_get HROW.out)
        have sb : ∀ (W : World), Below w3.heap.size w3 W → (W.cell? ⟨g0, 0, none⟩ = some (.slice (some ⟨b, off, none⟩) L c) ∧ W.cell? ⟨g0, 1, none⟩ = some (.int .i64 M1) ∧ W.cell? ⟨g0, 2, none⟩ = some (.int .i64 M2) ∧ W.cell? ⟨g0, 3, none⟩ = some (.int .i64 M3) ∧ W.cell? ⟨b, off + i * 6, none⟩ = some (.int .i64 s.pid) ∧ W.cell? ⟨b, off + i * 6 + 1, none⟩ = some (.int .i64 s.parent) ∧ W.cell? ⟨b, off + i * 6 + 2, none⟩ = some (.int .i64 s.state) ∧ W.cell? ⟨b, off + i * 6 + 3, none⟩ = some (.int .i64 s.code) ∧ W.cell? ⟨b, off + i * 6 + 4, none⟩ = some (.int .i64 s.til) ∧ W.cell? ⟨b, off + i * 6 + 5, none⟩ = some (.bool s.killed) ∧ Below w3.heap.size w3 W) := fun W k => by
          have hk := HP3.out.bx.t.below k
          have d : ∀ (j : Nat) (u : Value), (procV s)[j]? = some u → W.cell? ⟨b, off + i * 6 + j, none⟩ = some u := fun j u hu => by
            have h2 := hcc j u hu
            rw [← Nat.add_assoc] at h2
            exact (k.cell (p := ⟨b, off + i * 6 + j, none⟩) hb).trans h2
          exact ⟨hk.cells.1.1, hk.cells.1.2.1, hk.cells.1.2.2.1, hk.cells.1.2.2.2, d 0 _ rfl, d 1 _ rfl, d 2 _ rfl, d 3 _ rfl, d 4 _ rfl, d 5 _ rfl, k⟩
        have SB := Lib.hid sb
        have SN := Lib.hid (fun (W W' : World) (k : Below w3.heap.size w3 W) (k' : Below W.heap.size W W') => below_next k k')
        have HAT := Lib.hid (fun (W : World) (k : Below w3.heap.size w3 W) => by
          have := rat_is M1 M2 M3 (some ⟨b, off, none⟩) c l n W (HP3.out.below k).rd (by rw [HL.out]; exact o4)
          rw [HL.out, HFI.out] at this
          exact this)
        have HCA := Lib.hid (fun (W : World) (k : Below (w3.drew.alloc (.cells #[.int .i64 0, .int .i64 0, .int .i64 0, .int .i64 0, .int .i64 0, .bool false] 78)).heap.size (w3.drew.alloc (.cells #[.int .i64 0, .int .i64 0, .int .i64 0, .int .i64 0, .int .i64 0, .bool false] 78)) W) => by
          have hz : BoxQ W w3.heap.size zeroT := (show BoxQ _ w3.heap.size zeroT from heap_alloc_new w3.drew _).below k
          exact And.intro hz (HP3.out.copy (below_next (below_next (below_drew w3) (below_box w3.drew _)) k) (Nat.le_refl _) s zeroT hz))
        have HCB := Lib.hid (fun (W : World) (k : Below w3.drew.heap.size w3.drew W) => by
          have hz : BoxQ (W.alloc (.cells #[.int .i64 0, .int .i64 0, .int .i64 0, .int .i64 0, .int .i64 0, .bool false] 78)) W.heap.size zeroT := heap_alloc_new W _
          exact And.intro hz (HP3.out.copy2 (below_next (below_drew w3) k) s))
        clear sb hb hcc t0 t1 t2 t3
        go_cut [9] (fun v7 wc => ∃ g7, v7 = .pointer (some ⟨g7, 0, none⟩) ∧ Hid (CopySt w w3 wc g0 g1 g7 (.slice (some ⟨b, off, none⟩) L c) M1 M2 M3 s))
        case first =>
          go_region_held3 (fun W => W.cell? ⟨g0, 0, none⟩ = some (.slice (some ⟨b, off, none⟩) L c) ∧ W.cell? ⟨g0, 1, none⟩ = some (.int .i64 M1) ∧ W.cell? ⟨g0, 2, none⟩ = some (.int .i64 M2) ∧ W.cell? ⟨g0, 3, none⟩ = some (.int .i64 M3) ∧ W.cell? ⟨b, off + i * 6, none⟩ = some (.int .i64 s.pid) ∧ W.cell? ⟨b, off + i * 6 + 1, none⟩ = some (.int .i64 s.parent) ∧ W.cell? ⟨b, off + i * 6 + 2, none⟩ = some (.int .i64 s.state) ∧ W.cell? ⟨b, off + i * 6 + 3, none⟩ = some (.int .i64 s.code) ∧ W.cell? ⟨b, off + i * 6 + 4, none⟩ = some (.int .i64 s.til) ∧ W.cell? ⟨b, off + i * 6 + 5, none⟩ = some (.bool s.killed) ∧ Below w3.heap.size w3 W)
            (first | assumption | exact SB.out _ (Below.refl _ _) | exact SB.out _ (below_drew _) | exact SB.out _ bC | exact SB.out _ HF.out.b | exact SB.out _ (SN.out _ _ bC (below_box _ _)) | exact SB.out _ (SN.out _ _ (below_drew _) (below_box _ _)))
            ((go_at_call 79; (with_reducible refine (HAT.out _ (by first | exact And.right (And.right (And.right (And.right (And.right (And.right (And.right (And.right (And.right (And.right (by assumption)))))))))))).mono ?_); rintro e wi ⟨rfl, bi⟩; first | (obtain ⟨hz, W7, hW7, HF⟩ := HCA.out wi bi; have bC := SN.out _ _ (SN.out _ _ (below_drew _) (below_box _ _)) bi; obtain ⟨⟨z0, z1, z2, z3, z4, z5⟩, zf, _⟩ := hz.cells) | (obtain ⟨hz, hF⟩ := HCB.out wi bi; have HF := Lib.hid hF; clear hF; have bC := SN.out _ _ (below_drew _) bi; obtain ⟨⟨z0, z1, z2, z3, z4, z5⟩, zf, _⟩ := hz.cells)))
          all_goals
            go_wp2_with fail
            go_meet
            exact ⟨_, rfl, HF⟩
        case rest =>
          obtain ⟨g7, rfl, HC⟩ := hcut
          clear SB SN HAT HCA HCB
          obtain ⟨⟨q0, q1, q2, q3, q4, q5⟩, qf, _⟩ := HC.out.q.cells
          obtain ⟨⟨t0, t1, t2, t3⟩, _, _⟩ := HC.out.bx.t.cells
          obtain ⟨⟨r0, r1, r2, r3⟩, rf, W', hW', HF⟩ := HC.out.bx.fin (.slice (some ⟨b, off, none⟩) L c) M1 M2 M3
          go_wp2
          refine bodyPost_ret (results_rt2 rfl _ _ g1 rfl HF.out.1) rfl ⟨_, rfl, ?_, HF.out.2.1⟩
          have hh := H.out.below HF.out.2.1
          unfold rtabV at hh
          rw [HTL.out, HL.out, HM.out.1, HM.out.2.1, HM.out.2.2] at hh
          exact hh
      · rw [if_neg hk, ← hitL_set hnd hf.2 hp]
        have hk1 : ¬ k < 1 := by omega
        have hil := (List.getElem?_eq_some_iff.1 hf.2).1
        have HFI := Lib.hid hf.1
        have HROW := Lib.hid hf.2
        have HPI := Lib.hid hp
        have HOK2 : Hid (TabOk { T with list := T.list.set i (sleepP T.now k s) }) := Lib.hid ⟨o1, o2, by rw [List.length_set]; exact o3, by rw [List.length_set]; exact o4, o5, o6, o7⟩
        unfold rtabV at HLV ⊢
        clear e h hr hc o1 o2 o3 o5 o6 o7 hnd hf hs hp
        obtain ⟨l, hl⟩ : ∃ l, T.list = l := ⟨_, rfl⟩
        obtain ⟨L, hL⟩ : ∃ L, l.length = L := ⟨_, rfl⟩
        have HL := Lib.hid hL
        rw [hl] at HOK2 HFI HROW HR HP HLV hw1 hil o4 ⊢
        rw [hL] at HP HLV hw1 hil o4 ⊢
        obtain ⟨M1, hM1⟩ : ∃ x, T.most = x := ⟨_, rfl⟩
        obtain ⟨M2, hM2⟩ : ∃ x, T.last = x := ⟨_, rfl⟩
        obtain ⟨M3, hM3⟩ : ∃ x, T.now = x := ⟨_, rfl⟩
        rw [hM1, hM2, hM3] at HP HLV hw1
        rw [hM1, hM2, hM3]
        have HM := Lib.hid (And.intro hM1 (And.intro hM2 hM3))
        have hx0 : (0 : Int) ≤ (i : Int) := by omega
        have hx1 : (i : Int) < (L : Int) := by omega
        clear hl hL hM1 hM2 hM3 H HOK
        go_enter Try.func41, Try.ntmps41
        obtain ⟨⟨t0, t1, t2, t3⟩, _, _⟩ := HP.out.t.cells
        go_wp2_with fail
        refine (HLV.out w2 HP.out.b).mono ?_
        rintro e w3 ⟨rfl, b3⟩
        have HP3 : Hid (CopyPre w w3 g0 g1 (.slice a L c) M1 M2 M3 a l) := Lib.hid ⟨HP.out.below b3, HR.out.below (below_next HP.out.b b3)⟩
        clear t0 t1 t2 t3 b3 HP HR HLV hw1 hw2 hg0 hg1
        obtain ⟨⟨t0, t1, t2, t3⟩, _, _⟩ := HP3.out.bx.t.cells
        go_upto_region 4 with fail
        obtain ⟨b, off, rfl, hb, hcc⟩ := HP3.out.rd.row (procsV_get HROW.out)
        have sb : ∀ (W : World), Below w3.heap.size w3 W → (W.cell? ⟨g0, 0, none⟩ = some (.slice (some ⟨b, off, none⟩) L c) ∧ W.cell? ⟨g0, 1, none⟩ = some (.int .i64 M1) ∧ W.cell? ⟨g0, 2, none⟩ = some (.int .i64 M2) ∧ W.cell? ⟨g0, 3, none⟩ = some (.int .i64 M3) ∧ W.cell? ⟨b, off + i * 6, none⟩ = some (.int .i64 s.pid) ∧ W.cell? ⟨b, off + i * 6 + 1, none⟩ = some (.int .i64 s.parent) ∧ W.cell? ⟨b, off + i * 6 + 2, none⟩ = some (.int .i64 s.state) ∧ W.cell? ⟨b, off + i * 6 + 3, none⟩ = some (.int .i64 s.code) ∧ W.cell? ⟨b, off + i * 6 + 4, none⟩ = some (.int .i64 s.til) ∧ W.cell? ⟨b, off + i * 6 + 5, none⟩ = some (.bool s.killed) ∧ Below w3.heap.size w3 W) := fun W k => by
          have hk := HP3.out.bx.t.below k
          have d : ∀ (j : Nat) (u : Value), (procV s)[j]? = some u → W.cell? ⟨b, off + i * 6 + j, none⟩ = some u := fun j u hu => by
            have h2 := hcc j u hu
            rw [← Nat.add_assoc] at h2
            exact (k.cell (p := ⟨b, off + i * 6 + j, none⟩) hb).trans h2
          exact ⟨hk.cells.1.1, hk.cells.1.2.1, hk.cells.1.2.2.1, hk.cells.1.2.2.2, d 0 _ rfl, d 1 _ rfl, d 2 _ rfl, d 3 _ rfl, d 4 _ rfl, d 5 _ rfl, k⟩
        have SB := Lib.hid sb
        have SN := Lib.hid (fun (W W' : World) (k : Below w3.heap.size w3 W) (k' : Below W.heap.size W W') => below_next k k')
        have HAT := Lib.hid (fun (W : World) (k : Below w3.heap.size w3 W) => by
          have := rat_is M1 M2 M3 (some ⟨b, off, none⟩) c l n W (HP3.out.below k).rd (by rw [HL.out]; exact o4)
          rw [HL.out, HFI.out] at this
          exact this)
        have HCA := Lib.hid (fun (W : World) (k : Below (w3.drew.alloc (.cells #[.int .i64 0, .int .i64 0, .int .i64 0, .int .i64 0, .int .i64 0, .bool false] 78)).heap.size (w3.drew.alloc (.cells #[.int .i64 0, .int .i64 0, .int .i64 0, .int .i64 0, .int .i64 0, .bool false] 78)) W) => by
          have hz : BoxQ W w3.heap.size zeroT := (show BoxQ _ w3.heap.size zeroT from heap_alloc_new w3.drew _).below k
          exact And.intro hz (HP3.out.copy (below_next (below_next (below_drew w3) (below_box w3.drew _)) k) (Nat.le_refl _) s zeroT hz))
        have HCB := Lib.hid (fun (W : World) (k : Below w3.drew.heap.size w3.drew W) => by
          have hz : BoxQ (W.alloc (.cells #[.int .i64 0, .int .i64 0, .int .i64 0, .int .i64 0, .int .i64 0, .bool false] 78)) W.heap.size zeroT := heap_alloc_new W _
          exact And.intro hz (HP3.out.copy2 (below_next (below_drew w3) k) s))
        clear sb hb hcc t0 t1 t2 t3
        go_cut [9] (fun v7 wc => ∃ g7, v7 = .pointer (some ⟨g7, 0, none⟩) ∧ Hid (CopySt w w3 wc g0 g1 g7 (.slice (some ⟨b, off, none⟩) L c) M1 M2 M3 s))
        case first =>
          go_region_held3 (fun W => W.cell? ⟨g0, 0, none⟩ = some (.slice (some ⟨b, off, none⟩) L c) ∧ W.cell? ⟨g0, 1, none⟩ = some (.int .i64 M1) ∧ W.cell? ⟨g0, 2, none⟩ = some (.int .i64 M2) ∧ W.cell? ⟨g0, 3, none⟩ = some (.int .i64 M3) ∧ W.cell? ⟨b, off + i * 6, none⟩ = some (.int .i64 s.pid) ∧ W.cell? ⟨b, off + i * 6 + 1, none⟩ = some (.int .i64 s.parent) ∧ W.cell? ⟨b, off + i * 6 + 2, none⟩ = some (.int .i64 s.state) ∧ W.cell? ⟨b, off + i * 6 + 3, none⟩ = some (.int .i64 s.code) ∧ W.cell? ⟨b, off + i * 6 + 4, none⟩ = some (.int .i64 s.til) ∧ W.cell? ⟨b, off + i * 6 + 5, none⟩ = some (.bool s.killed) ∧ Below w3.heap.size w3 W)
            (first | assumption | exact SB.out _ (Below.refl _ _) | exact SB.out _ (below_drew _) | exact SB.out _ bC | exact SB.out _ HF.out.b | exact SB.out _ (SN.out _ _ bC (below_box _ _)) | exact SB.out _ (SN.out _ _ (below_drew _) (below_box _ _)))
            ((go_at_call 79; (with_reducible refine (HAT.out _ (by first | exact And.right (And.right (And.right (And.right (And.right (And.right (And.right (And.right (And.right (And.right (by assumption)))))))))))).mono ?_); rintro e wi ⟨rfl, bi⟩; first | (obtain ⟨hz, W7, hW7, HF⟩ := HCA.out wi bi; have bC := SN.out _ _ (SN.out _ _ (below_drew _) (below_box _ _)) bi; obtain ⟨⟨z0, z1, z2, z3, z4, z5⟩, zf, _⟩ := hz.cells) | (obtain ⟨hz, hF⟩ := HCB.out wi bi; have HF := Lib.hid hF; clear hF; have bC := SN.out _ _ (below_drew _) bi; obtain ⟨⟨z0, z1, z2, z3, z4, z5⟩, zf, _⟩ := hz.cells)))
          all_goals
            go_wp2_with fail
            go_meet
            exact ⟨_, rfl, HF⟩
        case rest =>
          obtain ⟨g7, rfl, HC⟩ := hcut
          clear SB SN HAT HCA HCB
          obtain ⟨W8, hW8, HC8⟩ := HC.out.slept 1099511627776
          obtain ⟨⟨q0, q1, q2, q3, q4, q5⟩, qf, _⟩ := HC.out.q.cells
          obtain ⟨⟨y0, y1, y2, y3, y4, y5⟩, yf, _⟩ := HC8.out.q.cells
          obtain ⟨⟨t0, t1, t2, t3⟩, _, _⟩ := HC8.out.bx.t.cells
          have hnow : 0 ≤ M3 ∧ M3 ≤ 1099511627776 := by have h1 := HOK2.out.2.2.2.2.1; have h2 := HOK2.out.2.2.2.2.2.1; rw [← HM.out.2.2]; exact ⟨h1, h2⟩
          have hw1 : IntKind.i64.wrap (1099511627776 - M3) = 1099511627776 - M3 := IntWalk.i64_in _ (by omega)
          have hk0 : 0 < k := by omega
          by_cases hlt : k < 1099511627776 - M3
          · have HAF : Hid (afterT T.now k = M3 + k) := Lib.hid (by unfold afterT; rw [HM.out.2.2]; omega)
            have hw2 : IntKind.i64.wrap (M3 + k) = M3 + k := IntWalk.i64_in _ (by omega)
            obtain ⟨W9, hW9, HC9⟩ := HC8.out.later (M3 + k)
            clear hnow hk0
            go_upto_region 13 with fail
            clear hw1 hw2 hlt q0 q1 q2 q3 q4 q5 qf y0 y1 y2 y3 y4 y5 yf t0 t1 t2 t3 hW8 hW9
            have HSP : Hid (sleepP T.now k s = { s with state := 2, til := M3 + k }) := Lib.hid (by unfold sleepP; rw [show afterT T.now k = M3 + k from HAF.out])
            have HPUT := Lib.hid (rput22_is (some ⟨b, off, none⟩) c l M1 M2 M3 i { s with state := 2, til := M3 + k } s HROW.out (by show findI l s.pid = _; rw [HPI.out]; exact HFI.out) (by rw [HL.out]; exact o4) W9 (HP3.out.below HC9.out.b).rd)
            rw [HL.out] at HPUT
            unfold procA procV at HPUT
            obtain ⟨⟨t0, t1, t2, t3⟩, _, _⟩ := HC9.out.bx.t.cells
            obtain ⟨⟨y0, y1, y2, y3, y4, y5⟩, _, _⟩ := HC9.out.q.cells
            go_wp2_with fail
            refine HPUT.out.mono ?_
            rintro e w9 ⟨gN, cN, rfl, ho, b9⟩
            have HB9 := Lib.hid (HC9.out.bx.below b9)
            have HO9 := Lib.hid ho
            have HSZ := Lib.hid (HC9.out.bx.b.size)
            clear ho b9 t0 t1 t2 t3 y0 y1 y2 y3 y4 y5
            obtain ⟨⟨r0, r1, r2, r3⟩, rf, W', hW', HF⟩ := HB9.out.fin (.slice (some ⟨gN, 0, none⟩) L cN) M1 M2 M3
            go_wp2
            refine bodyPost_ret (results_rt2 rfl _ _ g1 rfl HF.out.1) rfl ⟨_, rfl, ?_, HF.out.2.1⟩
            rw [show sleepP M3 k s = { s with state := 2, til := M3 + k } from by have hsp := HSP.out; rw [HM.out.2.2] at hsp; exact hsp]
            have hk2 := HOK2.out
            rw [HSP.out, HM.out.1, HM.out.2.1, HM.out.2.2] at hk2
            refine ⟨some ⟨gN, 0, none⟩, cN, ?_, ?_, hk2⟩
            · unfold rtabV
              show _ = Value.agg #[.slice _ (l.set i _).length cN, .int .i64 M1, .int .i64 M2, .int .i64 M3]
              rw [List.length_set, HL.out]
            · show OwnsR' B W' _ 6 (.slice _ (l.set i _).length cN) _
              rw [List.length_set, HL.out]
              exact (HO9.out.less (Nat.le_trans hB HSZ.out)).kept HF.out.2.2 (.inr (by intro e; have e9 : gN = g1 := Option.some.inj e; have h9 := HO9.out.apartT HB9.out.r (by decide); exact h9 (by rw [e9]; rfl)))
          · have HAF : Hid (afterT T.now k = 1099511627776) := Lib.hid (by unfold afterT; rw [HM.out.2.2]; omega)
            clear hnow hk0
            go_upto_region 13 with fail
            clear hw1 hlt q0 q1 q2 q3 q4 q5 qf y0 y1 y2 y3 y4 y5 yf t0 t1 t2 t3 hW8
            obtain ⟨W9, hW9⟩ : ∃ W9, W8 = W9 := ⟨_, rfl⟩
            rw [hW9] at HC8 ⊢
            have HC9 := HC8
            clear hW9 HC8
            have HSP : Hid (sleepP T.now k s = { s with state := 2, til := 1099511627776 }) := Lib.hid (by unfold sleepP; rw [show afterT T.now k = 1099511627776 from HAF.out])
            have HPUT := Lib.hid (rput22_is (some ⟨b, off, none⟩) c l M1 M2 M3 i { s with state := 2, til := 1099511627776 } s HROW.out (by show findI l s.pid = _; rw [HPI.out]; exact HFI.out) (by rw [HL.out]; exact o4) W9 (HP3.out.below HC9.out.b).rd)
            rw [HL.out] at HPUT
            unfold procA procV at HPUT
            obtain ⟨⟨t0, t1, t2, t3⟩, _, _⟩ := HC9.out.bx.t.cells
            obtain ⟨⟨y0, y1, y2, y3, y4, y5⟩, _, _⟩ := HC9.out.q.cells
            go_wp2_with fail
            refine HPUT.out.mono ?_
            rintro e w9 ⟨gN, cN, rfl, ho, b9⟩
            have HB9 := Lib.hid (HC9.out.bx.below b9)
            have HO9 := Lib.hid ho
            have HSZ := Lib.hid (HC9.out.bx.b.size)
            clear ho b9 t0 t1 t2 t3 y0 y1 y2 y3 y4 y5
            obtain ⟨⟨r0, r1, r2, r3⟩, rf, W', hW', HF⟩ := HB9.out.fin (.slice (some ⟨gN, 0, none⟩) L cN) M1 M2 M3
            go_wp2
            refine bodyPost_ret (results_rt2 rfl _ _ g1 rfl HF.out.1) rfl ⟨_, rfl, ?_, HF.out.2.1⟩
            rw [show sleepP M3 k s = { s with state := 2, til := 1099511627776 } from by have hsp := HSP.out; rw [HM.out.2.2] at hsp; exact hsp]
            have hk2 := HOK2.out
            rw [HSP.out, HM.out.1, HM.out.2.1, HM.out.2.2] at hk2
            refine ⟨some ⟨gN, 0, none⟩, cN, ?_, ?_, hk2⟩
            · unfold rtabV
              show _ = Value.agg #[.slice _ (l.set i _).length cN, .int .i64 M1, .int .i64 M2, .int .i64 M3]
              rw [List.length_set, HL.out]
            · show OwnsR' B W' _ 6 (.slice _ (l.set i _).length cN) _
              rw [List.length_set, HL.out]
              exact (HO9.out.less (Nat.le_trans hB HSZ.out)).kept HF.out.2.2 (.inr (by intro e; have e9 : gN = g1 := Option.some.inj e; have h9 := HO9.out.apartT HB9.out.r (by decide); exact h9 (by rw [e9]; rfl)))
end Go.Proofs.Ytnengblmcfiajaa
