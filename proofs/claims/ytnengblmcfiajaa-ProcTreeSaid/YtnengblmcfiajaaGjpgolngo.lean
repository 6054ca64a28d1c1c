/- The document's table of processes: Kill. -/
import Derived.Test.YtnengblmcfiajaaGikkoaeip
namespace Go.Proofs.Ytnengblmcfiajaa
open Go.RowKit Go.Sort
set_option linter.unusedVariables false
set_option linter.unusedSimpArgs false
set_option maxRecDepth 100000

/-- The table in its box, the result's box. -/
structure Bx (w W : World) (g0 g1 : Nat) (v : Value) (m la no : Int) : Prop where
  t : BoxR W g0 v m la no
  r : BoxR W g1 (.slice none 0 0) 0 0 0
  b : Below w.heap.size w W
  g : w.heap.size ≤ g0 ∧ g0 < g1
theorem Bx.below {w W W' : World} {g0 g1 : Nat} {v : Value} {m la no : Int} (h : Bx w W g0 g1 v m la no) (k : Below W.heap.size W W') : Bx w W' g0 g1 v m la no := ⟨h.t.below k, h.r.below k, below_next h.b k, h.g⟩
theorem Bx.kept {w W W' : World} {g0 g1 q : Nat} {v : Value} {m la no : Int} (h : Bx w W g0 g1 v m la no) (k : W.grownBy W' (some q)) (h0 : g0 ≠ q) (h1 : g1 ≠ q) (h2 : w.heap.size ≤ q) : Bx w W' g0 g1 v m la no :=
  ⟨h.t.kept k (by intro e; exact h0 (Option.some.inj e)), h.r.kept k (by intro e; exact h1 (Option.some.inj e)), h.b.grown k h.b.size (by intro j hj; obtain rfl := Option.some.inj hj; exact h2), h.g⟩
theorem bx_new (w : World) (v : Value) (m la no : Int) : ∃ w1 w2 g0 g1, w.alloc (.cells #[v, .int .i64 m, .int .i64 la, .int .i64 no] 28) = w1 ∧ w1.alloc (.cells #[.slice none 0 0, .int .i64 0, .int .i64 0, .int .i64 0] 28) = w2 ∧ w.heap.size = g0 ∧ w1.heap.size = g1 ∧ Hid (Bx w w2 g0 g1 v m la no) := by
  refine ⟨_, _, _, _, rfl, rfl, rfl, rfl, Lib.hid ?_⟩
  generalize h1 : w.alloc (.cells #[v, .int .i64 m, .int .i64 la, .int .i64 no] 28) = w1
  have s1 : w1.heap.size = w.heap.size + 1 := by rw [← h1]; simp
  have b1 : Below w.heap.size w w1 := by rw [← h1]; exact below_box _ _
  have b2 := below_box w1 (.cells #[.slice none 0 0, .int .i64 0, .int .i64 0, .int .i64 0] 28)
  have n1 : BoxR w1 w.heap.size v m la no := by rw [← h1]; exact heap_alloc_new w _
  exact ⟨n1.below b2, heap_alloc_new w1 _, below_next b1 b2, Nat.le_refl _, by omega⟩
theorem Bx.fin {w W : World} {g0 g1 : Nat} {v : Value} {m la no : Int} (h : Bx w W g0 g1 v m la no) (v' : Value) (m' l' n' : Int) :
    (W.cell? ⟨g1, 0, none⟩ = some (.slice none 0 0) ∧ W.cell? ⟨g1, 1, none⟩ = some (.int .i64 0) ∧ W.cell? ⟨g1, 2, none⟩ = some (.int .i64 0) ∧ W.cell? ⟨g1, 3, none⟩ = some (.int .i64 0)) ∧ (∀ j, W.frozen? ⟨g1, j, none⟩ = false) ∧
    ∃ W', (((W.setCell ⟨g1, 0, none⟩ v').setCell ⟨g1, 1, none⟩ (.int .i64 m')).setCell ⟨g1, 2, none⟩ (.int .i64 l')).setCell ⟨g1, 3, none⟩ (.int .i64 n') = W' ∧ Hid (BoxR W' g1 v' m' l' n' ∧ Below w.heap.size w W' ∧ W.grownBy W' (some g1)) := by
  have hs := h.r.set4 v' m' l' n'
  exact ⟨h.r.cells.1, h.r.cells.2.1, _, rfl, Lib.hid ⟨hs.1, h.b.grown hs.2 h.b.size (by intro j hj; obtain rfl := Option.some.inj hj; have := h.g; omega), hs.2⟩⟩
/-- What a call on the document's table comes to. -/
def RPost22 (B : Nat) (w : World) (T : TabD) (xs : List Value) (e : Ending) (w' : World) : Prop := ∃ v, e = .returned (.tuple (v :: xs).toArray) ∧ RTab B w' v T ∧ Below w.heap.size w w'
theorem RTab.less2 {B : Nat} {w w' : World} {a : Option Addr} {c : Nat} {T : TabD} {l : List ProcD} (hB : B ≤ w.heap.size) (ho : OwnsR' w.heap.size w' 78 6 (.slice a l.length c) (procsV l)) (hok : TabOk { T with list := l }) : RTab B w' (.agg #[.slice a l.length c, .int .i64 T.most, .int .i64 T.last, .int .i64 T.now]) { T with list := l } :=
  ⟨a, c, rfl, ho.less hB, hok⟩
/-- What the drawn region 'one of a Pid is copied' is to keep. -/
structure CopyPre (w W : World) (g0 g1 : Nat) (v : Value) (m la no : Int) (a : Option Addr) (l : List ProcD) : Prop where
  bx : Bx w W g0 g1 v m la no
  rd : ReadsR W a 6 (procsV l)
theorem CopyPre.below {w W W' : World} {g0 g1 : Nat} {v : Value} {m la no : Int} {a : Option Addr} {l : List ProcD} (h : CopyPre w W g0 g1 v m la no a l) (k : Below W.heap.size W W') : CopyPre w W' g0 g1 v m la no a l := ⟨h.bx.below k, h.rd.below k⟩
/-- Behind it: the copy lies in a box of its own. -/
structure CopySt (w W3 W : World) (g0 g1 g7 : Nat) (v : Value) (m la no : Int) (s : ProcD) : Prop where
  bx : Bx w W g0 g1 v m la no
  q : BoxQ W g7 s
  g : g1 < g7 ∧ W3.heap.size ≤ g7
  b : Below W3.heap.size W3 W
theorem CopyPre.copy {w W Wi : World} {g0 g1 g7 : Nat} {v : Value} {m la no : Int} {a : Option Addr} {l : List ProcD} (h : CopyPre w W g0 g1 v m la no a l) (b : Below W.heap.size W Wi) (hg : W.heap.size ≤ g7) (s z : ProcD) (hz : BoxQ Wi g7 z) :
    ∃ W7, (((((Wi.setCell ⟨g7, 0, none⟩ (.int .i64 s.pid)).setCell ⟨g7, 1, none⟩ (.int .i64 s.parent)).setCell ⟨g7, 2, none⟩ (.int .i64 s.state)).setCell ⟨g7, 3, none⟩ (.int .i64 s.code)).setCell ⟨g7, 4, none⟩ (.int .i64 s.til)).setCell ⟨g7, 5, none⟩ (.bool s.killed) = W7 ∧ Hid (CopySt w W W7 g0 g1 g7 v m la no s) := by
  have hs := six_setT (.int .i64 s.pid) (.int .i64 s.parent) (.int .i64 s.state) (.int .i64 s.code) (.int .i64 s.til) (.bool s.killed) hz
  have bb : Below W.heap.size W _ := b.grown hs.2 b.size (by intro j hj; obtain rfl := Option.some.inj hj; exact hg)
  exact ⟨_, rfl, Lib.hid ⟨h.bx.below bb, hs.1, ⟨by have := h.bx.r.cells.2.2; omega, hg⟩, bb⟩⟩
theorem CopyPre.copy2 {w W Wi : World} {g0 g1 : Nat} {v : Value} {m la no : Int} {a : Option Addr} {l : List ProcD} (h : CopyPre w W g0 g1 v m la no a l) (b : Below W.heap.size W Wi) (s : ProcD) :
    CopySt w W (Wi.alloc (.cells #[.int .i64 s.pid, .int .i64 s.parent, .int .i64 s.state, .int .i64 s.code, .int .i64 s.til, .bool s.killed] 78)) g0 g1 Wi.heap.size v m la no s := by
  have bb := below_next b (below_box Wi (.cells #[.int .i64 s.pid, .int .i64 s.parent, .int .i64 s.state, .int .i64 s.code, .int .i64 s.til, .bool s.killed] 78))
  exact ⟨h.bx.below bb, heap_alloc_new Wi _, ⟨by have h1 := h.bx.r.cells.2.2; have h2 := b.size; omega, b.size⟩, bb⟩
theorem CopySt.killed {w W3 W : World} {g0 g1 g7 : Nat} {v : Value} {m la no : Int} {s : ProcD} (h : CopySt w W3 W g0 g1 g7 v m la no s) :
    ∃ W8, ((W.setCell ⟨g7, 5, none⟩ (.bool true)).setCell ⟨g7, 2, none⟩ (.int .i64 1)).setCell ⟨g7, 4, none⟩ (.int .i64 0) = W8 ∧ Hid (CopySt w W3 W8 g0 g1 g7 v m la no (killP s)) := by
  have h1 := heap_setCell_same W g7 5 _ _ (.bool true) h.q
  have h2 := heap_setCell_same _ g7 2 _ _ (.int .i64 1) h1
  have h3 := heap_setCell_same _ g7 4 _ _ (.int .i64 0) h2
  have k := grown_transT (grown_transT (grown_setCellT W ⟨g7, 5, none⟩ (.bool true)) (grown_setCellT _ ⟨g7, 2, none⟩ (.int .i64 1))) (grown_setCellT _ ⟨g7, 4, none⟩ (.int .i64 0))
  have hg := h.g
  have hw := h.bx.g
  exact ⟨_, rfl, Lib.hid ⟨h.bx.kept k (by show g0 ≠ g7; omega) (by show g1 ≠ g7; omega) (by show w.heap.size ≤ g7; omega), h3, h.g, h.b.grown k h.b.size (by intro j hj; obtain rfl := Option.some.inj hj; exact hg.2)⟩⟩
set_option maxHeartbeats 1600000 in
theorem rkill_is {B : Nat} {w : World} {v : Value} {T : TabD} (h : RTab B w v T) (hB : B ≤ w.heap.size) (hnd : (pidsL T.list).Nodup) (n : Int) :
    Calls Try.prog 39 #[v, .int .i64 n] w (RPost22 B w (killF T n).1 [.int .i64 (killF T n).2]) := by
  have H := Lib.hid h
  obtain ⟨a, c, rfl, hr, hc, o1, o2, o3, o4, o5, o6, o7⟩ := h.reads
  obtain ⟨w1, w2, g0, g1, hw1, hw2, hg0, hg1, HP⟩ := bx_new w (.slice a T.list.length c) T.most T.last T.now
  have HR := Lib.hid hr
  have HLV := Lib.hid (fun (W : World) (hW : Below w.heap.size w W) => rlive_is (H.out.below hW) n)
  have HOK := Lib.hid (show TabOk T from ⟨o1, o2, o3, o4, o5, o6, o7⟩)
  unfold killF
  rcases gone_cases T n with ⟨e, _⟩ | ⟨e, i, s, hf, hs, hp⟩
  · rw [if_pos e]
    simp only [e, if_true] at HLV
    unfold rtabV at H HLV ⊢
    clear e h hr hc o1 o2 o3 o4 o5 o6 o7 HR hnd
    go_enter Try.func39, Try.ntmps39
    obtain ⟨⟨t0, t1, t2, t3⟩, _, _⟩ := HP.out.t.cells
    go_wp2_with fail
    refine (HLV.out w2 HP.out.b).mono ?_
    rintro e w3 ⟨rfl, b3⟩
    have HP3 := Lib.hid (HP.out.below b3)
    clear t0 t1 t2 t3 b3
    obtain ⟨⟨t0, t1, t2, t3⟩, _, _⟩ := HP3.out.t.cells
    obtain ⟨⟨r0, r1, r2, r3⟩, rf, W', hW', HF⟩ := HP3.out.fin (.slice a T.list.length c) T.most T.last T.now
    go_wp2
    exact bodyPost_ret (results_rt2 rfl _ _ g1 rfl HF.out.1) rfl ⟨_, rfl, H.out.below HF.out.2.1, HF.out.2.1⟩
  · rw [if_neg (by rw [e]; decide)]
    simp only [e, Bool.false_eq_true, if_false] at HLV
    by_cases hn : n = 1
    · rw [if_pos hn]
      subst hn
      unfold rtabV at H HLV ⊢
      clear e h hr hc o1 o2 o3 o4 o5 o6 o7 HR hnd hf hs hp
      go_enter Try.func39, Try.ntmps39
      obtain ⟨⟨t0, t1, t2, t3⟩, _, _⟩ := HP.out.t.cells
      go_wp2_with fail
      refine (HLV.out w2 HP.out.b).mono ?_
      rintro e w3 ⟨rfl, b3⟩
      have HP3 := Lib.hid (HP.out.below b3)
      clear t0 t1 t2 t3 b3
      obtain ⟨⟨t0, t1, t2, t3⟩, _, _⟩ := HP3.out.t.cells
      obtain ⟨⟨r0, r1, r2, r3⟩, rf, W', hW', HF⟩ := HP3.out.fin (.slice a T.list.length c) T.most T.last T.now
      go_wp2
      exact bodyPost_ret (results_rt2 rfl _ _ g1 rfl HF.out.1) rfl ⟨_, rfl, H.out.below HF.out.2.1, HF.out.2.1⟩
    · rw [if_neg hn, ← hitL_set hnd hf.2 hp]
      have hil := (List.getElem?_eq_some_iff.1 hf.2).1
      have HFI := Lib.hid hf.1
      have HROW := Lib.hid hf.2
      have HPI := Lib.hid hp
      have hnb : (n == 1) = false := by simpa using hn
      have HOK2 : Hid (TabOk { T with list := T.list.set i (killP s) }) := Lib.hid ⟨o1, o2, by rw [List.length_set]; exact o3, by rw [List.length_set]; exact o4, o5, o6, o7⟩
      unfold rtabV at HLV ⊢
      clear e h hr hc o1 o2 o3 o5 o6 o7 hnd hf hs hp hn
      obtain ⟨l, hl⟩ : ∃ l, T.list = l := ⟨_, rfl⟩
      obtain ⟨L, hL⟩ : ∃ L, l.length = L := ⟨_, rfl⟩
      have HL := Lib.hid hL
      rw [hl] at HOK2 HFI HROW HR HP HLV hw1 hil o4 ⊢
      rw [hL] at HP HLV hw1 hil o4 ⊢
      obtain ⟨M1, hM1⟩ : ∃ x, T.most = x := ⟨_, rfl⟩
      obtain ⟨M2, hM2⟩ : ∃ x, T.last = x := ⟨_, rfl⟩
      obtain ⟨M3, hM3⟩ : ∃ x, T.now = x := ⟨_, rfl⟩
      rw [hM1, hM2, hM3] at HP HLV hw1
      rw [hM1, hM2, hM3]
      have HM := Lib.hid (And.intro hM1 (And.intro hM2 hM3))
      have hx0 : (0 : Int) ≤ (i : Int) := by omega
      have hx1 : (i : Int) < (L : Int) := by omega
      clear hl hL hM1 hM2 hM3 H HOK
      go_enter Try.func39, Try.ntmps39
      obtain ⟨⟨t0, t1, t2, t3⟩, _, _⟩ := HP.out.t.cells
      go_wp2_with fail
      refine (HLV.out w2 HP.out.b).mono ?_
      rintro e w3 ⟨rfl, b3⟩
      have HP3 : Hid (CopyPre w w3 g0 g1 (.slice a L c) M1 M2 M3 a l) := Lib.hid ⟨HP.out.below b3, HR.out.below (below_next HP.out.b b3)⟩
      clear t0 t1 t2 t3 b3 HP HR HLV hw1 hw2 hg0 hg1
      obtain ⟨⟨t0, t1, t2, t3⟩, _, _⟩ := HP3.out.bx.t.cells
      go_upto_region 6 with fail
      obtain ⟨b, off, rfl, hb, hcc⟩ := HP3.out.rd.row (procsV_get HROW.out)
      have sb : ∀ (W : World), Below w3.heap.size w3 W → (W.cell? ⟨g0, 0, none⟩ = some (.slice (some ⟨b, off, none⟩) L c) ∧ W.cell? ⟨g0, 1, none⟩ = some (.int .i64 M1) ∧ W.cell? ⟨g0, 2, none⟩ = some (.int .i64 M2) ∧ W.cell? ⟨g0, 3, none⟩ = some (.int .i64 M3) ∧ W.cell? ⟨b, off + i * 6, none⟩ = some (.int .i64 s.pid) ∧ W.cell? ⟨b, off + i * 6 + 1, none⟩ = some (.int .i64 s.parent) ∧ W.cell? ⟨b, off + i * 6 + 2, none⟩ = some (.int .i64 s.state) ∧ W.cell? ⟨b, off + i * 6 + 3, none⟩ = some (.int .i64 s.code) ∧ W.cell? ⟨b, off + i * 6 + 4, none⟩ = some (.int .i64 s.til) ∧ W.cell? ⟨b, off + i * 6 + 5, none⟩ = some (.bool s.killed) ∧ Below w3.heap.size w3 W) := fun W k => by
        have hk := HP3.out.bx.t.below k
        have d : ∀ (j : Nat) (u : Value), (procV s)[j]? = some u → W.cell? ⟨b, off + i * 6 + j, none⟩ = some u := fun j u hu => by
          have h2 := hcc j u hu
          rw [← Nat.add_assoc] at h2
          exact (k.cell (p := ⟨b, off + i * 6 + j, none⟩) hb).trans h2
        exact ⟨hk.cells.1.1, hk.cells.1.2.1, hk.cells.1.2.2.1, hk.cells.1.2.2.2, d 0 _ rfl, d 1 _ rfl, d 2 _ rfl, d 3 _ rfl, d 4 _ rfl, d 5 _ rfl, k⟩
      have SB := Lib.hid sb
      have SN := Lib.hid (fun (W W' : World) (k : Below w3.heap.size w3 W) (k' : Below W.heap.size W W') => below_next k k')
      have HAT := Lib.hid (fun (W : World) (k : Below w3.heap.size w3 W) => by
        have := rat_is M1 M2 M3 (some ⟨b, off, none⟩) c l n W (HP3.out.below k).rd (by rw [HL.out]; exact o4)
        rw [HL.out, HFI.out] at this
        exact this)
      have HCA := Lib.hid (fun (W : World) (k : Below (w3.drew.alloc (.cells #[.int .i64 0, .int .i64 0, .int .i64 0, .int .i64 0, .int .i64 0, .bool false] 78)).heap.size (w3.drew.alloc (.cells #[.int .i64 0, .int .i64 0, .int .i64 0, .int .i64 0, .int .i64 0, .bool false] 78)) W) => by
        have hz : BoxQ W w3.heap.size zeroT := (show BoxQ _ w3.heap.size zeroT from heap_alloc_new w3.drew _).below k
        exact And.intro hz (HP3.out.copy (below_next (below_next (below_drew w3) (below_box w3.drew _)) k) (Nat.le_refl _) s zeroT hz))
      have HCB := Lib.hid (fun (W : World) (k : Below w3.drew.heap.size w3.drew W) => by
        have hz : BoxQ (W.alloc (.cells #[.int .i64 0, .int .i64 0, .int .i64 0, .int .i64 0, .int .i64 0, .bool false] 78)) W.heap.size zeroT := heap_alloc_new W _
        exact And.intro hz (HP3.out.copy2 (below_next (below_drew w3) k) s))
      clear sb hb hcc t0 t1 t2 t3
      go_cut [7] (fun v7 wc => ∃ g7, v7 = .pointer (some ⟨g7, 0, none⟩) ∧ Hid (CopySt w w3 wc g0 g1 g7 (.slice (some ⟨b, off, none⟩) L c) M1 M2 M3 s))
      case first =>
        go_region_held3 (fun W => W.cell? ⟨g0, 0, none⟩ = some (.slice (some ⟨b, off, none⟩) L c) ∧ W.cell? ⟨g0, 1, none⟩ = some (.int .i64 M1) ∧ W.cell? ⟨g0, 2, none⟩ = some (.int .i64 M2) ∧ W.cell? ⟨g0, 3, none⟩ = some (.int .i64 M3) ∧ W.cell? ⟨b, off + i * 6, none⟩ = some (.int .i64 s.pid) ∧ W.cell? ⟨b, off + i * 6 + 1, none⟩ = some (.int .i64 s.parent) ∧ W.cell? ⟨b, off + i * 6 + 2, none⟩ = some (.int .i64 s.state) ∧ W.cell? ⟨b, off + i * 6 + 3, none⟩ = some (.int .i64 s.code) ∧ W.cell? ⟨b, off + i * 6 + 4, none⟩ = some (.int .i64 s.til) ∧ W.cell? ⟨b, off + i * 6 + 5, none⟩ = some (.bool s.killed) ∧ Below w3.heap.size w3 W)
          (first | assumption | exact SB.out _ (Below.refl _ _) | exact SB.out _ (below_drew _) | exact SB.out _ bC | exact SB.out _ HF.out.b | exact SB.out _ (SN.out _ _ bC (below_box _ _)) | exact SB.out _ (SN.out _ _ (below_drew _) (below_box _ _)))
          ((go_at_call 79; (with_reducible refine (HAT.out _ (by first | exact And.right (And.right (And.right (And.right (And.right (And.right (And.right (And.right (And.right (And.right (by assumption)))))))))))).mono ?_); rintro e wi ⟨rfl, bi⟩; first | (obtain ⟨hz, W7, hW7, HF⟩ := HCA.out wi bi; have bC := SN.out _ _ (SN.out _ _ (below_drew _) (below_box _ _)) bi; obtain ⟨⟨z0, z1, z2, z3, z4, z5⟩, zf, _⟩ := hz.cells) | (obtain ⟨hz, hF⟩ := HCB.out wi bi; have HF := Lib.hid hF; clear hF; have bC := SN.out _ _ (below_drew _) bi; obtain ⟨⟨z0, z1, z2, z3, z4, z5⟩, zf, _⟩ := hz.cells)))
        all_goals
          go_wp2_with fail
          go_meet
          exact ⟨_, rfl, HF⟩
      case rest =>
        obtain ⟨g7, rfl, HC⟩ := hcut
        clear SB SN HAT HCA HCB
        obtain ⟨W8, hW8, HC8⟩ := HC.out.killed
        obtain ⟨⟨q0, q1, q2, q3, q4, q5⟩, qf, _⟩ := HC.out.q.cells
        have HPUT := Lib.hid (rput22_is (some ⟨b, off, none⟩) c l M1 M2 M3 i (killP s) s HROW.out (by show findI l s.pid = _; rw [HPI.out]; exact HFI.out) (by rw [HL.out]; exact o4) W8 (HP3.out.below HC8.out.b).rd)
        rw [HL.out] at HPUT
        unfold procA procV at HPUT
        obtain ⟨⟨t0, t1, t2, t3⟩, _, _⟩ := HC8.out.bx.t.cells
        obtain ⟨⟨y0, y1, y2, y3, y4, y5⟩, _, _⟩ := HC8.out.q.cells
        go_wp2_with fail
        refine HPUT.out.mono ?_
        rintro e w9 ⟨gN, cN, rfl, ho, b9⟩
        have HB9 := Lib.hid (HC8.out.bx.below b9)
        have HO9 := Lib.hid ho
        have HSZ := Lib.hid (HC8.out.bx.b.size)
        clear ho b9 hW8 q0 q1 q2 q3 q4 q5 qf t0 t1 t2 t3 y0 y1 y2 y3 y4 y5
        obtain ⟨⟨r0, r1, r2, r3⟩, rf, W', hW', HF⟩ := HB9.out.fin (.slice (some ⟨gN, 0, none⟩) L cN) M1 M2 M3
        go_wp2
        refine bodyPost_ret (results_rt2 rfl _ _ g1 rfl HF.out.1) rfl ⟨_, rfl, ⟨some ⟨gN, 0, none⟩, cN, ?_, ?_, ?_⟩, HF.out.2.1⟩
        · unfold rtabV
          show _ = Value.agg #[.slice _ (l.set i (killP s)).length cN, .int .i64 M1, .int .i64 M2, .int .i64 M3]
          rw [List.length_set, HL.out]
        · show OwnsR' B W' _ 6 (.slice _ (l.set i (killP s)).length cN) _
          rw [List.length_set, HL.out]
          refine (HO9.out.less (Nat.le_trans hB HSZ.out)).kept HF.out.2.2 (.inr (by intro e; have e9 : gN = g1 := Option.some.inj e; have h9 := HO9.out.apartT HB9.out.r (by decide); exact h9 (by rw [e9]; rfl)))
        · have hk := HOK2.out
          rw [HM.out.1, HM.out.2.1, HM.out.2.2] at hk
          exact hk
end Go.Proofs.Ytnengblmcfiajaa
