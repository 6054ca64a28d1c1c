/- FdFiles' walk. -/
import Derived.Test.YtbpklbicbeckdaaGhafpcfmp
import Derived.Test.YtbpklbicbeckdaaGjpfachge
namespace Go.Proofs.Ytbpklbicbeckdaa
open Go.ChangeShapes Go.WideShapes Go.ChangeAt Go.RowKit Go.Sort
set_option linter.unusedVariables false
set_option linter.unusedSimpArgs false
set_option maxRecDepth 100000

/-- An act on open files, or on a set. -/
structure Act20D where
  kind : Int
  a : Int
  b : Int
  c : Int
def act20V (x : Act20D) : List Value := [.int .i64 x.kind, .int .i64 x.a, .int .i64 x.b, .int .i64 x.c]
def Act20Fits (x : Act20D) : Prop := I64 x.kind ∧ I64 x.a ∧ I64 x.b ∧ I64 x.c
theorem act20_cells : Try.prog.cellsOf 65 = 4 := by kernel_rfl
theorem act20_of_trod {H : Type} {enc : TypeId × Value → H} {W : World} {m : Nat} {cs : List Value} {y : DataW H × List MemPlace} (hl : cs.length = 4)
    (h : DataW.trod enc Try.prog W 0 (fun _ => true) true m 65 cs = some y) : ∃ u, Act20Fits u ∧ act20V u = cs := by
  match cs, hl with
  | [v0, v1, v2, v3], _ =>
    obtain ⟨ys, n', _, _, _, hyl, hf⟩ := DataW.trod_struct Try.underlying65 h
    have get : ∀ j, j < 4 → ∃ u, ys[j]? = some u := fun j hj => ⟨ys[j]'(by rw [hyl]; exact hj), List.getElem?_eq_getElem _⟩
    obtain ⟨y0, e0⟩ := get 0 (by decide)
    obtain ⟨y1, e1⟩ := get 1 (by decide)
    obtain ⟨y2, e2⟩ := get 2 (by decide)
    obtain ⟨y3, e3⟩ := get 3 (by decide)
    have f0 := (hf 0 _ rfl).trans e0
    have f1 := (hf 1 _ rfl).trans e1
    have f2 := (hf 2 _ rfl).trans e2
    have f3 := (hf 3 _ rfl).trans e3
    replace f0 : DataW.trod enc Try.prog W 0 (fun _ => true) true n' 3 [v0] = some y0 := f0
    replace f1 : DataW.trod enc Try.prog W 0 (fun _ => true) true n' 3 [v1] = some y1 := f1
    replace f2 : DataW.trod enc Try.prog W 0 (fun _ => true) true n' 3 [v2] = some y2 := f2
    replace f3 : DataW.trod enc Try.prog W 0 (fun _ => true) true n' 3 [v3] = some y3 := f3
    obtain ⟨x0, g0, _, w0⟩ := DataW.trod_int Try.underlying3 f0
    obtain ⟨x1, g1, _, w1⟩ := DataW.trod_int Try.underlying3 f1
    obtain ⟨x2, g2, _, w2⟩ := DataW.trod_int Try.underlying3 f2
    obtain ⟨x3, g3, _, w3⟩ := DataW.trod_int Try.underlying3 f3
    obtain rfl : v0 = .int .i64 x0 := by simpa using g0
    obtain rfl : v1 = .int .i64 x1 := by simpa using g1
    obtain rfl : v2 = .int .i64 x2 := by simpa using g2
    obtain rfl : v3 = .int .i64 x3 := by simpa using g3
    exact ⟨⟨x0, x1, x2, x3⟩, ⟨i64_of_wf w0, i64_of_wf w1, i64_of_wf w2, i64_of_wf w3⟩, rfl⟩
theorem open_act20 {H : Type} {enc : TypeId × Value → H} {W : World} {base : Nat} {v : Value} {d : DataW H} {pl : List MemPlace}
    (hok : Value.okWide Try.prog W .any base 59 v) (h : DataW.Trod enc Try.prog W 0 (fun _ => true) true 59 v d pl) :
    ∃ a cap, ∃ us : List Act20D, v = .slice a us.length cap ∧ ReadsR W a 4 (rowsOf act20V us) ∧ us.length ≤ cap ∧ ∀ u ∈ us, Act20Fits u :=
  open_rows act20V Act20Fits ⟨0, 0, 0, 0⟩ 4 (by decide) (fun _ => rfl) Try.underlying59 act20_cells (fun hl ht => act20_of_trod hl ht) hok h
theorem FewRefs.mono {k m : Nat} {fl : List FileD} (h : FewRefs k fl) (hm : k ≤ m) : FewRefs m fl := fun o ho => ⟨(h o ho).1, by have := (h o ho).2; omega⟩
theorem few_set {k : Nat} {fl : List FileD} (h : FewRefs k fl) (i : Nat) (o : FileD) (h1 : 0 ≤ o.refs) (h2 : o.refs ≤ (k : Int) + 1) : FewRefs (k + 1) (fl.set i o) := by
  intro x hx
  rcases List.mem_or_eq_of_mem_set hx with hx | rfl
  · have := h x hx; omega
  · omega
theorem few_open {j : Nat} {fl : List FileD} (h : FewRefs j fl) (k n f : Int) : FewRefs (j + 1) (openF fl k n f).1 ∧ (openF fl k n f).1.length = fl.length := by
  unfold openF
  split
  · exact ⟨h.mono (Nat.le_succ _), rfl⟩
  · split
    · exact ⟨h.mono (Nat.le_succ _), rfl⟩
    · exact ⟨few_set h _ _ (by show (0 : Int) ≤ 1; decide) (by show (1 : Int) ≤ _; omega), List.length_set⟩
theorem few_ref {j : Nat} {fl : List FileD} (h : FewRefs j fl) (n : Int) : FewRefs (j + 1) (refF fl n).1 ∧ (refF fl n).1.length = fl.length := by
  unfold refF
  cases ho : openAt fl n with
  | none => exact ⟨h.mono (Nat.le_succ _), rfl⟩
  | some o =>
    obtain ⟨i, rfl, hu, _⟩ := openAt_some ho
    have := h o (List.mem_of_getElem? hu)
    exact ⟨few_set h _ _ (by show 0 ≤ o.refs + 1; omega) (by show o.refs + 1 ≤ _; omega), List.length_set⟩
theorem few_move {j : Nat} {fl : List FileD} (h : FewRefs j fl) (n x : Int) : FewRefs (j + 1) (moveF fl n x).1 ∧ (moveF fl n x).1.length = fl.length := by
  unfold moveF
  cases ho : openAt fl n with
  | none => exact ⟨h.mono (Nat.le_succ _), rfl⟩
  | some o =>
    obtain ⟨i, rfl, hu, _⟩ := openAt_some ho
    have := h o (List.mem_of_getElem? hu)
    dsimp only
    split
    · exact ⟨h.mono (Nat.le_succ _), rfl⟩
    · exact ⟨few_set h _ _ (by show 0 ≤ o.refs; omega) (by show o.refs ≤ _; omega), List.length_set⟩
theorem few_close {j : Nat} {fl : List FileD} (h : FewRefs j fl) (n : Int) : FewRefs (j + 1) (closeF fl n).1 ∧ (closeF fl n).1.length = fl.length := by
  unfold closeF
  cases ho : openAt fl n with
  | none => exact ⟨h.mono (Nat.le_succ _), rfl⟩
  | some o =>
    obtain ⟨i, rfl, hu, hk⟩ := openAt_some ho
    have := h o (List.mem_of_getElem? hu)
    have hk2 : 0 < o.refs := of_decide_eq_true hk
    dsimp only
    split
    · exact ⟨few_set h _ _ (by decide) (by show (0 : Int) ≤ _; omega), List.length_set⟩
    · exact ⟨few_set h _ _ (by show 0 ≤ o.refs - 1; omega) (by show o.refs - 1 ≤ _; omega), List.length_set⟩
theorem own_neF {B : Nat} {w : World} {b : Nat} {cs : Array Value} {e u : TypeId} {k : Nat} {v : Value} {l : List (List Value)} (h : OwnsR' B w e k v l) (hb : w.heap[b]? = some (.cells cs u (0, 0))) (hne : e ≠ u) : v.ownBlock = none ∨ v.ownBlock ≠ some b := by
  obtain ⟨_, _, ⟨rfl, _⟩ | ⟨g9, c9, cur9, rfl, _, hg9, _⟩⟩ := h
  · exact .inl rfl
  · right
    intro e9
    have : g9 = b := Option.some.inj e9
    exact nblock hg9 hb hne this
theorem RFiles.keptG {B B' : Nat} {w w' : World} {gf gfs : Nat} {v : Value} {fl fl' : List FileD} (h : RFiles B w v fl) (hf : IsFiles B' w gf gfs fl') (hg : w.grownBy w' (some gfs)) : RFiles B w' v fl := by
  obtain ⟨a, c, e, h1⟩ := h
  refine ⟨a, c, e, h1.kept hg ?_⟩
  obtain ⟨cs, hc⟩ := own_cells hf.2.1
  exact own_neF h1 hc (by decide)
set_option maxHeartbeats 3200000 in
theorem fdFiles_walk (n : Int) (a : Option Addr) (cap : Nat) (l : List Act20D) (w : World) (hr : ReadsR w a 4 (rowsOf act20V l)) (hfit : ∀ u ∈ l, Act20Fits u) (hcap : l.length ≤ cap) :
    Calls Try.prog 5 #[.int .i64 n, .slice a l.length cap] w fun e w' => e = .returned (.bool true) ∧ Below w.heap.size w w' := by
  obtain ⟨L, hL⟩ : ∃ L, l.length = L := ⟨_, rfl⟩
  have HLN := Lib.hid hL
  rw [hL] at hcap ⊢
  have HR := Lib.hid hr
  have HF := Lib.hid hfit
  obtain ⟨m, hm⟩ : ∃ m : Nat, clampF 64 n = (m : Int) := ⟨(clampF 64 n).toNat, by unfold clampF; omega⟩
  have hm64 : m ≤ 64 := by unfold clampF at hm; omega
  have HM := Lib.hid hm
  clear hr hfit hL hm
  go_enter Try.func5, Try.ntmps5
  go_wp2_with fail
  refine (awake20_true w).mono ?_
  rintro e w1 ⟨rfl, b1⟩
  have B1 := Lib.hid b1
  clear b1
  go_wp2_with fail
  refine (fnew_is n w1 m HM.out).mono ?_
  rintro e w2 ⟨g, gs, rfl, hf, b2⟩
  have HF2 : Hid (IsFiles w.heap.size w2 g gs (List.replicate m zeroF)) := Lib.hid (hf.less B1.out.size)
  have B2 := Lib.hid (below_next B1.out b2)
  clear hf b2
  go_wp2_with fail
  refine (rfnew_is n w2 m HM.out).mono ?_
  rintro e w3 ⟨v, rfl, hrf, b3⟩
  have HF3 : Hid (IsFiles w.heap.size w3 g gs (List.replicate m zeroF)) := Lib.hid (HF2.out.below b3)
  have HR3 : Hid (RFiles w.heap.size w3 v (List.replicate m zeroF)) := Lib.hid (hrf.less B2.out.size)
  have B3 := Lib.hid (below_next B2.out b3)
  have HW3 : Hid (FewRefs 0 (List.replicate m zeroF) ∧ (List.replicate m zeroF).length = m) := Lib.hid ⟨fun o ho => by rw [List.eq_of_mem_replicate ho]; exact ⟨by decide, by decide⟩, List.length_replicate⟩
  clear hrf b3 HF2 B1 B2
  go_wp2_with fail
  go_loopw [6, 7] (fun v6 i wr => ∃ (j : Nat) (fl : List FileD), j ≤ L ∧ j ≤ 100 ∧ i = .int .i64 (j : Int) ∧ Hid (IsFiles w.heap.size wr g gs fl) ∧ Hid (RFiles w.heap.size wr v6 fl) ∧ Hid (FewRefs j fl ∧ fl.length = m) ∧ Hid (Below w.heap.size w wr)) (fun _ i _ => 100 - (intOf i).toNat)
  case atStart => exact ⟨0, _, Nat.zero_le _, by decide, rfl, HF3, HR3, HW3, B3⟩
  case round =>
    obtain ⟨j, fl, hj1, hj2, rfl, HFI, HRF, HFW, HB⟩ := hrel
    clear HF3 HR3 HW3 B3
    generalize u6 = v6 at *
    by_cases hlt : j < L
    · by_cases h100 : j < 100
      · obtain ⟨⟨kd, x, y, z⟩, hx⟩ : ∃ x, l[j]? = some x := ⟨_, List.getElem?_eq_getElem (by rw [HLN.out]; exact hlt)⟩
        obtain ⟨b, off, rfl, hb, hc⟩ := (HR.out.below HB.out).row (rowsOf_get hx)
        have c0 : wr.cell? ⟨b, off + j * 4, none⟩ = some (.int .i64 kd) := hc 0 _ rfl
        have c1 : wr.cell? ⟨b, off + j * 4 + 1, none⟩ = some (.int .i64 x) := by have := hc 1 _ rfl; rwa [← Nat.add_assoc] at this
        have c2 : wr.cell? ⟨b, off + j * 4 + 2, none⟩ = some (.int .i64 y) := by have := hc 2 _ rfl; rwa [← Nat.add_assoc] at this
        have c3 : wr.cell? ⟨b, off + j * 4 + 3, none⟩ = some (.int .i64 z) := by have := hc 3 _ rfl; rwa [← Nat.add_assoc] at this
        have hx1 : (0 : Int) ≤ (j : Int) := by omega
        have hx2 : (j : Int) < (L : Int) := by omega
        have hx3 : (j : Int) < 100 := by omega
        have HLT := Lib.hid (And.intro hlt h100)
        have kb := below_box wr (.cells #[.int .i64 kd, .int .i64 x, .int .i64 y, .int .i64 z] 65)
        have nb := heap_alloc_new wr (.cells #[.int .i64 kd, .int .i64 x, .int .i64 y, .int .i64 z] 65)
        obtain ⟨wb, hwb⟩ : ∃ W, wr.alloc (.cells #[.int .i64 kd, .int .i64 x, .int .i64 y, .int .i64 z] 65) = W := ⟨_, rfl⟩
        rw [hwb] at kb nb
        obtain ⟨gb, hgb⟩ : ∃ x, wr.heap.size = x := ⟨_, rfl⟩
        rw [hgb] at nb
        have HNB := Lib.hid nb
        have HFB : Hid (IsFiles w.heap.size wb g gs fl) := Lib.hid (HFI.out.below kb)
        have HRB : Hid (RFiles w.heap.size wb v6 fl) := Lib.hid (HRF.out.below kb)
        have HBB : Hid (Below w.heap.size w wb) := Lib.hid (below_next HB.out kb)
        have d0 := cell_of_row nb 0
        have d1 := cell_of_row nb 1
        have d2 := cell_of_row nb 2
        have d3 := cell_of_row nb 3
        clear hc hx hb kb nb hlt h100 HFI HRF HB
        by_cases hk : kd = 0
        · subst hk
          obtain ⟨q, hq⟩ : ∃ q, openF fl x y z = q := ⟨_, rfl⟩
          have hfw := few_open HFW.out.1 x y z
          have HP := Lib.hid (fopen_is HFB.out x y z)
          have HQ := Lib.hid (fun (W : World) (v : Value) (h : RFiles w.heap.size W v fl) (hB : w.heap.size ≤ W.heap.size) => rfopen_is h hB (by rw [HFW.out.2]; exact hm64) (FewRefs.mono HFW.out.1 (by omega)) x y z)
          rw [hq] at hfw HP
          simp only [hq] at HQ
          have HFW2 := Lib.hid (And.intro hfw.1 (hfw.2.trans HFW.out.2))
          clear hfw hq
          obtain ⟨F1, F2, F3⟩ := q
          dsimp only at HP HQ HFW2
          have e1 : (F2 != F2) = false := by simp
          have e2 : (F3 != F3) = false := by simp
          go_wp2_with fail
          refine HP.out.mono ?_
          rintro e w5 ⟨rfl, hf5, g5⟩
          have HF5 := Lib.hid hf5
          have HR5 := Lib.hid (HRB.out.keptG HFB.out g5)
          have HB5 : Hid (Below w.heap.size w w5) := Lib.hid (HBB.out.grown g5 HBB.out.size (fun i hi => by obtain rfl := Option.some.inj hi; exact (files_lt HFB.out).2.2))
          have hne : gb ≠ gs := by obtain ⟨cs, hcs⟩ := own_cells HFB.out.2.1; exact nblock HNB.out hcs (by decide)
          have nb5 := (g5.block gb (Array.getElem?_eq_some_iff.1 HNB.out).1 (by intro e; exact hne (Option.some.inj e))).trans HNB.out
          clear hf5 g5 hne
          have d0 := cell_of_row nb5 0
          have d1 := cell_of_row nb5 1
          have d2 := cell_of_row nb5 2
          have d3 := cell_of_row nb5 3
          have NB5 := Lib.hid nb5
          clear nb5
          go_wp2_with fail
          refine (HQ.out w5 v6 HR5.out HB5.out.size).mono ?_
          rintro e w6 ⟨v7, rfl, hr6, b6⟩
          have HF7 := Lib.hid (HF5.out.below b6)
          have HR7 := Lib.hid hr6
          have HB7 := Lib.hid (below_next HB5.out b6)
          clear hr6 b6
          go_wp2_with fail
          refine (files_true HF7.out HR7.out).mono ?_
          rintro e w9 ⟨rfl, b9⟩
          have HF9 := Lib.hid (HF7.out.below b9)
          have HR9 := Lib.hid (HR7.out.below b9)
          have HB9 := Lib.hid (below_next HB7.out b9)
          clear b9
          go_wp2
          have h1 := HLT.out
          go_roundw
          case rel => exact ⟨j + 1, F1, HLT.out.1, HLT.out.2, by go_num, HF9, HR9, HFW2, HB9⟩
          case measure => simp [intOf]; omega
        by_cases hk : kd = 2
        · subst hk
          obtain ⟨q, hq⟩ : ∃ q, refF fl x = q := ⟨_, rfl⟩
          have hfw := few_ref HFW.out.1 x
          have HP := Lib.hid (fref_is HFB.out (FewRefs.mono HFW.out.1 (by omega)) x)
          have HQ := Lib.hid (fun (W : World) (v : Value) (h : RFiles w.heap.size W v fl) (hB : w.heap.size ≤ W.heap.size) => rfref_is h hB (by rw [HFW.out.2]; exact hm64) (FewRefs.mono HFW.out.1 (by omega)) x)
          rw [hq] at hfw HP
          simp only [hq] at HQ
          have HFW2 := Lib.hid (And.intro hfw.1 (hfw.2.trans HFW.out.2))
          clear hfw hq
          obtain ⟨F1, F3⟩ := q
          dsimp only at HP HQ HFW2
          have e2 : (F3 != F3) = false := by simp
          go_wp2_with fail
          refine HP.out.mono ?_
          rintro e w5 ⟨rfl, hf5, g5⟩
          have HF5 := Lib.hid hf5
          have HR5 := Lib.hid (HRB.out.keptG HFB.out g5)
          have HB5 : Hid (Below w.heap.size w w5) := Lib.hid (HBB.out.grown g5 HBB.out.size (fun i hi => by obtain rfl := Option.some.inj hi; exact (files_lt HFB.out).2.2))
          have hne : gb ≠ gs := by obtain ⟨cs, hcs⟩ := own_cells HFB.out.2.1; exact nblock HNB.out hcs (by decide)
          have nb5 := (g5.block gb (Array.getElem?_eq_some_iff.1 HNB.out).1 (by intro e; exact hne (Option.some.inj e))).trans HNB.out
          clear hf5 g5 hne
          have d0 := cell_of_row nb5 0
          have d1 := cell_of_row nb5 1
          have d2 := cell_of_row nb5 2
          have d3 := cell_of_row nb5 3
          have NB5 := Lib.hid nb5
          clear nb5
          go_wp2_with fail
          refine (HQ.out w5 v6 HR5.out HB5.out.size).mono ?_
          rintro e w6 ⟨v7, rfl, hr6, b6⟩
          have HF7 := Lib.hid (HF5.out.below b6)
          have HR7 := Lib.hid hr6
          have HB7 := Lib.hid (below_next HB5.out b6)
          clear hr6 b6
          go_wp2_with fail
          refine (files_true HF7.out HR7.out).mono ?_
          rintro e w9 ⟨rfl, b9⟩
          have HF9 := Lib.hid (HF7.out.below b9)
          have HR9 := Lib.hid (HR7.out.below b9)
          have HB9 := Lib.hid (below_next HB7.out b9)
          clear b9
          go_wp2
          have h1 := HLT.out
          go_roundw
          case rel => exact ⟨j + 1, F1, HLT.out.1, HLT.out.2, by go_num, HF9, HR9, HFW2, HB9⟩
          case measure => simp [intOf]; omega
        by_cases hk : kd = 3
        · subst hk
          obtain ⟨q, hq⟩ : ∃ q, closeF fl x = q := ⟨_, rfl⟩
          have hfw := few_close HFW.out.1 x
          have HP := Lib.hid (fclose_is HFB.out HBB.out.size (FewRefs.mono HFW.out.1 (by omega)) x)
          have HQ := Lib.hid (fun (W : World) (v : Value) (h : RFiles w.heap.size W v fl) (hB : w.heap.size ≤ W.heap.size) => rfclose_is h hB (by rw [HFW.out.2]; exact hm64) (FewRefs.mono HFW.out.1 (by omega)) x)
          rw [hq] at hfw HP
          simp only [hq] at HQ
          have HFW2 := Lib.hid (And.intro hfw.1 (hfw.2.trans HFW.out.2))
          clear hfw hq
          obtain ⟨F1, F2, F3, F4⟩ := q
          dsimp only at HP HQ HFW2
          unfold fileA at HP
          have e1 : (F4 != F4) = false := by simp
          have e2 : (F3 != F3) = false := by simp
          go_wp2_with fail
          refine HP.out.mono ?_
          rintro e w5 ⟨rfl, hf5, g5⟩
          have HF5 := Lib.hid hf5
          have HR5 := Lib.hid (HRB.out.keptG HFB.out g5)
          have HB5 : Hid (Below w.heap.size w w5) := Lib.hid (HBB.out.grown g5 HBB.out.size (fun i hi => by obtain rfl := Option.some.inj hi; exact (files_lt HFB.out).2.2))
          have hne : gb ≠ gs := by obtain ⟨cs, hcs⟩ := own_cells HFB.out.2.1; exact nblock HNB.out hcs (by decide)
          have nb5 := (g5.block gb (Array.getElem?_eq_some_iff.1 HNB.out).1 (by intro e; exact hne (Option.some.inj e))).trans HNB.out
          clear hf5 g5 hne
          have bo := below_box w5 (.cells #[.int .i64 F2.kind, .int .i64 F2.num, .int .i64 F2.at_, .int .i64 F2.flags, .int .i64 F2.refs] 74)
          have no := heap_alloc_new w5 (.cells #[.int .i64 F2.kind, .int .i64 F2.num, .int .i64 F2.at_, .int .i64 F2.flags, .int .i64 F2.refs] 74)
          obtain ⟨w5b, hw5b⟩ : ∃ x, w5.alloc (.cells #[.int .i64 F2.kind, .int .i64 F2.num, .int .i64 F2.at_, .int .i64 F2.flags, .int .i64 F2.refs] 74) = x := ⟨_, rfl⟩
          rw [hw5b] at bo no
          obtain ⟨g5b, hg5b⟩ : ∃ x, w5.heap.size = x := ⟨_, rfl⟩
          rw [hg5b] at no
          have HF5b := Lib.hid (HF5.out.below bo)
          have HR5b := Lib.hid (HR5.out.below bo)
          have HB5b := Lib.hid (below_next HB5.out bo)
          have nb5b := (bo.block gb (Array.getElem?_eq_some_iff.1 nb5).1).trans nb5
          have NO := Lib.hid no
          clear nb5 bo no HF5 HR5 HB5
          have HF5 := HF5b
          have HR5 := HR5b
          have HB5 := HB5b
          have nb5 := nb5b
          clear HF5b HR5b HB5b nb5b
          have d0 := cell_of_row nb5 0
          have d1 := cell_of_row nb5 1
          have d2 := cell_of_row nb5 2
          have d3 := cell_of_row nb5 3
          have NB5 := Lib.hid nb5
          clear nb5
          go_wp2_with fail
          refine (HQ.out w5b v6 HR5.out HB5.out.size).mono ?_
          rintro e w6 ⟨v7, rfl, hr6, b6⟩
          unfold fileA
          have bo := below_box w6 (.cells #[.int .i64 F2.kind, .int .i64 F2.num, .int .i64 F2.at_, .int .i64 F2.flags, .int .i64 F2.refs] 77)
          have no := heap_alloc_new w6 (.cells #[.int .i64 F2.kind, .int .i64 F2.num, .int .i64 F2.at_, .int .i64 F2.flags, .int .i64 F2.refs] 77)
          obtain ⟨w7, hw7⟩ : ∃ x, w6.alloc (.cells #[.int .i64 F2.kind, .int .i64 F2.num, .int .i64 F2.at_, .int .i64 F2.flags, .int .i64 F2.refs] 77) = x := ⟨_, rfl⟩
          rw [hw7] at bo no
          obtain ⟨g7, hg7⟩ : ∃ x, w6.heap.size = x := ⟨_, rfl⟩
          rw [hg7] at no
          have HF7 := Lib.hid ((HF5.out.below b6).below bo)
          have HR7 := Lib.hid (hr6.below bo)
          have HB7 := Lib.hid (below_next (below_next HB5.out b6) bo)
          have no5 := (bo.block g5b (Nat.lt_of_lt_of_le (Array.getElem?_eq_some_iff.1 NO.out).1 b6.size)).trans ((b6.block g5b (Array.getElem?_eq_some_iff.1 NO.out).1).trans NO.out)
          have t0 := cell_of_row no 0
          have t1 := cell_of_row no 1
          have t2 := cell_of_row no 2
          have t3 := cell_of_row no 3
          have t4 := cell_of_row no 4
          have s0 := cell_of_row no5 0
          have s1 := cell_of_row no5 1
          have s2 := cell_of_row no5 2
          have s3 := cell_of_row no5 3
          have s4 := cell_of_row no5 4
          clear hr6 b6 bo no no5
          go_wp2_with fail
          refine (files_true HF7.out HR7.out).mono ?_
          rintro e w9 ⟨rfl, b9⟩
          have HF9 := Lib.hid (HF7.out.below b9)
          have HR9 := Lib.hid (HR7.out.below b9)
          have HB9 := Lib.hid (below_next HB7.out b9)
          clear b9
          go_wp2
          have h1 := HLT.out
          go_roundw
          case rel => exact ⟨j + 1, F1, HLT.out.1, HLT.out.2, by go_num, HF9, HR9, HFW2, HB9⟩
          case measure => simp [intOf]; omega
        by_cases hk : kd = 4
        · subst hk
          obtain ⟨q, hq⟩ : ∃ q, moveF fl x y = q := ⟨_, rfl⟩
          have hfw := few_move HFW.out.1 x y
          have HP := Lib.hid (fmove_is HFB.out x y)
          have HQ := Lib.hid (fun (W : World) (v : Value) (h : RFiles w.heap.size W v fl) (hB : w.heap.size ≤ W.heap.size) => rfmove_is h hB (by rw [HFW.out.2]; exact hm64) x y)
          rw [hq] at hfw HP
          simp only [hq] at HQ
          have HFW2 := Lib.hid (And.intro hfw.1 (hfw.2.trans HFW.out.2))
          clear hfw hq
          obtain ⟨F1, F3⟩ := q
          dsimp only at HP HQ HFW2
          have e2 : (F3 != F3) = false := by simp
          go_wp2_with fail
          refine HP.out.mono ?_
          rintro e w5 ⟨rfl, hf5, g5⟩
          have HF5 := Lib.hid hf5
          have HR5 := Lib.hid (HRB.out.keptG HFB.out g5)
          have HB5 : Hid (Below w.heap.size w w5) := Lib.hid (HBB.out.grown g5 HBB.out.size (fun i hi => by obtain rfl := Option.some.inj hi; exact (files_lt HFB.out).2.2))
          have hne : gb ≠ gs := by obtain ⟨cs, hcs⟩ := own_cells HFB.out.2.1; exact nblock HNB.out hcs (by decide)
          have nb5 := (g5.block gb (Array.getElem?_eq_some_iff.1 HNB.out).1 (by intro e; exact hne (Option.some.inj e))).trans HNB.out
          clear hf5 g5 hne
          have d0 := cell_of_row nb5 0
          have d1 := cell_of_row nb5 1
          have d2 := cell_of_row nb5 2
          have d3 := cell_of_row nb5 3
          have NB5 := Lib.hid nb5
          clear nb5
          go_wp2_with fail
          refine (HQ.out w5 v6 HR5.out HB5.out.size).mono ?_
          rintro e w6 ⟨v7, rfl, hr6, b6⟩
          have HF7 := Lib.hid (HF5.out.below b6)
          have HR7 := Lib.hid hr6
          have HB7 := Lib.hid (below_next HB5.out b6)
          clear hr6 b6
          go_wp2_with fail
          refine (files_true HF7.out HR7.out).mono ?_
          rintro e w9 ⟨rfl, b9⟩
          have HF9 := Lib.hid (HF7.out.below b9)
          have HR9 := Lib.hid (HR7.out.below b9)
          have HB9 := Lib.hid (below_next HB7.out b9)
          clear b9
          go_wp2
          have h1 := HLT.out
          go_roundw
          case rel => exact ⟨j + 1, F1, HLT.out.1, HLT.out.2, by go_num, HF9, HR9, HFW2, HB9⟩
          case measure => simp [intOf]; omega
        have HFW2 : Hid (FewRefs (j + 1) fl ∧ fl.length = m) := Lib.hid ⟨HFW.out.1.mono (Nat.le_succ _), HFW.out.2⟩
        go_wp2_with fail
        refine (files_true HFB.out HRB.out).mono ?_
        rintro e w9 ⟨rfl, b9⟩
        have HF9 := Lib.hid (HFB.out.below b9)
        have HR9 := Lib.hid (HRB.out.below b9)
        have HB9 := Lib.hid (below_next HBB.out b9)
        clear b9
        go_wp2
        have h1 := HLT.out
        go_roundw
        case rel => exact ⟨j + 1, fl, HLT.out.1, HLT.out.2, by go_num, HF9, HR9, HFW2, HB9⟩
        case measure => simp [intOf]; omega
      · have hx2 : (j : Int) < (L : Int) := by omega
        have hx3 : ¬ (j : Int) < 100 := by omega
        clear hlt h100
        go_wp2
        go_ret
        exact ⟨rfl, HB.out⟩
    · have hx2 : ¬ (j : Int) < (L : Int) := by omega
      clear hlt
      go_wp2
      go_ret
      exact ⟨rfl, HB.out⟩
end Go.Proofs.Ytbpklbicbeckdaa
