/- The law PtrPlaces is true for every input: each block hangs at one place, and each place has one block. No condition but that the table ptr.bounds reads as the program's text lays it, to which the card ties it. -/
import Derived.Test.YthipeaighngpfaaDoorIndex
import Derived.Test.YthipeaighngpfaaDoorCards
import Derived.Test.YthipeaighngpfaaDoorTie
import Derived.SevenTiedAt
import Derived.Lib.SmallJoins
namespace Go.Proofs.YthipeaighngpfaaDoor
open Go.ChangeShapes Go.WideShapes Go.ChangeAt Go.RowKit Go.Sort
set_option linter.unusedVariables false
set_option linter.unusedSimpArgs false
set_option maxRecDepth 100000

theorem run_eq_rplace_no {a b c x y z : Int} (h : ¬ (a = x ∧ b = y ∧ c = z)) (w : World) : (binOp .eql 26 (.agg #[.int .i64 a, .int .i64 b, .int .i64 c]) (.agg #[.int .i64 x, .int .i64 y, .int .i64 z])).run Tryd.prog w = .ok (.bool false) w := by
  go_simp
  by_cases h1 : a = x
  · subst h1
    by_cases h2 : b = y
    · subst h2
      have h3 : c ≠ z := fun e => h ⟨rfl, rfl, e⟩
      simp [h3]
    · simp [h2]
  · simp [h1]
theorem run_eq_rplace_yes (a b c : Int) (w : World) : (binOp .eql 26 (.agg #[.int .i64 a, .int .i64 b, .int .i64 c]) (.agg #[.int .i64 a, .int .i64 b, .int .i64 c])).run Tryd.prog w = .ok (.bool true) w := by
  go_simp
theorem all_at {B : Nat} {w : World} {v : Value} (h : OwnsR B w 26 3 v allR) : ∃ g cap, v = .slice (some ⟨g, 0, none⟩) 1064 cap ∧ g < w.heap.size ∧ ∀ q : Nat, q < 1064 →
    w.cell? ⟨g, q * 3, none⟩ = some (.int .i64 (ofL q)) ∧ w.cell? ⟨g, q * 3 + 1, none⟩ = some (.int .i64 (ofF q)) ∧ w.cell? ⟨g, q * 3 + 2, none⟩ = some (.int .i64 (ofS q)) := by
  rcases h.head with ⟨_, hnil⟩ | ⟨g, cp, e, hg1, hg2, hc1, hc2, hcells⟩
  · have := allR_length
    rw [hnil] at this
    cases this
  · rw [allR_length] at e hcells
    refine ⟨g, cp, e, hg2, fun q hq => ?_⟩
    have h0 := hcells q 0 hq (by omega)
    have h1 := hcells q 1 hq (by omega)
    have h2 := hcells q 2 hq (by omega)
    rw [allR_get hq] at h0 h1 h2
    exact ⟨by simpa using h0, by simpa using h1, by simpa using h2⟩
/-- The place at q is this one: then it may be, and q is its index. -/
theorem place_at {q : Nat} {l f s : Int} (hq : q < 1064) (h : ofL q = l ∧ ofF q = f ∧ ofS q = s) : idxI l f s = q ∧ idxE l f s = 0 := by
  obtain ⟨rfl, rfl, rfl⟩ := h
  have hb : isB (q : Int) = true := isB_iff.2 (by omega)
  obtain ⟨h1, h2⟩ := idx_yes (isP_of hb)
  exact ⟨by rw [h1, index_of hb], h2⟩
/-- None is this one: then it may not be. -/
theorem place_none {l f s : Int} (h : ∀ q : Nat, q < 1064 → ¬ (ofL q = l ∧ ofF q = f ∧ ofS q = s)) : idxI l f s = 0 ∧ idxE l f s = 1 := by
  refine idx_no fun hp => ?_
  obtain ⟨hb, h1, h2, h3⟩ := of_index hp
  have hbb := isB_iff.1 hb
  have e : ((indexI l f s).toNat : Int) = indexI l f s := by omega
  exact h (indexI l f s).toNat (by omega) (by rw [e]; exact ⟨h1, h2, h3⟩)
def NoneYet (l f s : Int) (q : Nat) : Prop := ∀ j : Nat, j < q → ¬ (ofL j = l ∧ ofF j = f ∧ ofS j = s)

set_option maxHeartbeats 6400000 in
theorem ptrPlaces_walk (i l f s : Int) (w : World) (hw : BoundsAt w) (hi : I64 i) : Calls Tryd.prog 5 #[.int .i64 i, .agg #[.int .i64 l, .int .i64 f, .int .i64 s]] w fun e w' => e = .returned (.bool true) ∧ Below w.heap.size w w' := by
  have HW : Hid (BoundsAt (w.alloc (.cells #[.int .i64 l, .int .i64 f, .int .i64 s] 26))) := hw.below (below_box w _)
  have HI := Lib.hid hi
  have EV : Hid (ofV i = .tuple #[.agg #[.int .i64 (ofL i), .int .i64 (ofF i), .int .i64 (ofS i)], .int .i64 (ofE i)]) := rfl
  have HX : Hid (ofE i = 0 → idxI (ofL i) (ofF i) (ofS i) = i ∧ idxE (ofL i) (ofF i) (ofS i) = 0) := fun h0 => by
    cases hb : isB i with
    | true =>
      obtain ⟨h1, h2⟩ := idx_yes (isP_of hb)
      exact ⟨by rw [h1, index_of hb], h2⟩
    | false => rcases ofE_no hb with e | e <;> omega
  clear hw hi
  generalize ofL i = L at *
  generalize ofF i = F at *
  generalize ofS i = S at *
  generalize ofE i = E at *
  have HQ := Lib.hid (run_neq_place_yes L F S)
  have HP : Hid (Kept3 (w.alloc (.cells #[.int .i64 l, .int .i64 f, .int .i64 s] 26)) w.heap.size (.int .i64 l) (.int .i64 f) (.int .i64 s)) := kept3_of (t := 26) (heap_alloc_new w _)
  have B0 := Lib.hid (below_box w (.cells #[.int .i64 l, .int .i64 f, .int .i64 s] 26))
  go_enter Tryd.func5, Tryd.ntmps5
  go_wp2_with fail
  (with_reducible refine (awake7_true _ HW.out).mono ?_)
  rintro e w0 ⟨rfl, c0⟩
  have HW0 := Lib.hid (HW.out.below c0)
  have HP0 := Lib.hid (HP.out.below c0)
  have B1 := Lib.hid (below_next B0.out c0)
  clear c0 HW HP B0
  go_wp2_with fail
  (with_reducible refine (pof_is i w0 HW0.out HI.out).mono ?_)
  rintro e w1 ⟨rfl, c1⟩
  rw [EV.out]
  have HW1 : Hid (BoundsAt (w1.alloc (.cells #[.int .i64 L, .int .i64 F, .int .i64 S] 31))) := (HW0.out.below c1).below (below_box _ _)
  have HP1 : Hid (Kept3 (w1.alloc (.cells #[.int .i64 L, .int .i64 F, .int .i64 S] 31)) w.heap.size (.int .i64 l) (.int .i64 f) (.int .i64 s)) := (HP0.out.below c1).more _
  have HX1 : Hid (Kept3 (w1.alloc (.cells #[.int .i64 L, .int .i64 F, .int .i64 S] 31)) w1.heap.size (.int .i64 L) (.int .i64 F) (.int .i64 S)) := kept3_of (t := 31) (heap_alloc_new w1 _)
  have B2 : Hid (Below w.heap.size w (w1.alloc (.cells #[.int .i64 L, .int .i64 F, .int .i64 S] 31))) := below_next (below_next B1.out c1) (below_box w1 _)
  clear c1 HW0 HP0 B1
  go_wp2_with fail
  (with_reducible refine (rof_is i _ HI.out).mono ?_)
  rintro e w2 ⟨rfl, c2⟩
  rw [EV.out]
  have HW2 : Hid (BoundsAt (w2.alloc (.cells #[.int .i64 L, .int .i64 F, .int .i64 S] 26))) := (HW1.out.below c2).below (below_box _ _)
  have HP2 : Hid (Kept3 (w2.alloc (.cells #[.int .i64 L, .int .i64 F, .int .i64 S] 26)) w.heap.size (.int .i64 l) (.int .i64 f) (.int .i64 s)) := (HP1.out.below c2).more _
  have hx2 := HX1.out.below c2
  have B3 : Hid (Below w.heap.size w (w2.alloc (.cells #[.int .i64 L, .int .i64 F, .int .i64 S] 26))) := below_next (below_next B2.out c2) (below_box w2 _)
  obtain ⟨x0, x1, x2, _, _, _, xz⟩ := hx2
  have xz' : w1.heap.size < w2.heap.size := xz
  have hq := HQ.out
  clear c2 HW1 HP1 HX1 B2 xz
  go_wp2_with fail
  (with_reducible refine (index_is L F S _ HW2.out).mono ?_)
  rintro e w3 ⟨rfl, c3⟩
  have HW3 := Lib.hid (HW2.out.below c3)
  have hp3 := HP2.out.below c3
  have HP3 := Lib.hid hp3
  have B4 := Lib.hid (below_next B3.out c3)
  clear c3 HW2 HP2 B3 x0 x1 x2 xz' hq
  generalize idxI L F S = N1 at *
  generalize idxE L F S = E1 at *
  obtain ⟨p0, p1, p2, _, _, _, pz⟩ := hp3
  have HJ : Hid ((∀ q : Nat, q < 1064 → (ofL q = l ∧ ofF q = f ∧ ofS q = s) → idxI l f s = q ∧ idxE l f s = 0) ∧ (NoneYet l f s 1064 → idxI l f s = 0 ∧ idxE l f s = 1)) := ⟨fun q hq h => place_at hq h, fun h => place_none h⟩
  have hcase : (E = 0 ∧ N1 = i ∧ E1 = 0) ∨ E ≠ 0 := by
    by_cases h : E = 0
    · obtain ⟨a, b⟩ := HX.out h
      exact .inl ⟨h, a, b⟩
    · exact .inr h
  clear HX EV
  have hcase2 : ((E == 0) = true ∧ (N1 != i) = false ∧ (E1 != 0) = false) ∨ ((E == 0) = false) := by
    rcases hcase with ⟨rfl, rfl, rfl⟩ | hE
    · left; simp
    · right; simp [hE]
  clear hcase
  rcases hcase2 with ⟨t1, t2, t3⟩ | t1
  all_goals
    go_wp2_with fail
    (with_reducible refine (index_is l f s _ HW3.out).mono ?_)
    rintro e w4 ⟨rfl, c4⟩
    have HP4 := Lib.hid (HP3.out.below c4)
    have B5 := Lib.hid (below_next B4.out c4)
    clear c4 p0 p1 p2 pz t1
    try clear t2 t3
    generalize idxI l f s = J at *
    generalize idxE l f s = G at *
    go_wp2_with fail
    refine (rall_is _).mono ?_
    rintro e w5 ⟨v, rfl, o5, c5⟩
    obtain ⟨g, cp, rfl, hg, hcells⟩ := all_at o5
    have HC := Lib.hid hcells
    have HP5 := Lib.hid (HP4.out.below c5)
    have B6 := Lib.hid (below_next B5.out c5)
    clear hcells c5 o5
    go_wp2_with fail
    go_loopw [69] (fun j wr => ∃ q : Nat, q ≤ 1064 ∧ j = .int .i64 q ∧ NoneYet l f s q ∧ Below w5.heap.size w5 wr) (fun j _ => 1064 - (intOf j).toNat)
    case atStart => exact ⟨0, Nat.zero_le _, rfl, fun j hj => absurd hj (Nat.not_lt_zero _), Below.refl _ _⟩
    case round =>
      obtain ⟨q, hq, rfl, hno, hB⟩ := hrel
      have HNO := Lib.hid hno
      have HB := Lib.hid hB
      obtain ⟨p0, p1, p2, _, _, _, pz⟩ := HP5.out.below hB
      have pz' : w.heap.size < wr.heap.size := pz
      clear hno hB pz
      by_cases hlt : q < 1064
      · have hlt2 : (q : Int) < 1064 := by omega
        obtain ⟨d0, d1, d2⟩ := HC.out q hlt
        have d0' := (HB.out.cell (p := ⟨g, q * 3, none⟩) hg).trans d0
        have d1' := (HB.out.cell (p := ⟨g, q * 3 + 1, none⟩) hg).trans d1
        have d2' := (HB.out.cell (p := ⟨g, q * 3 + 2, none⟩) hg).trans d2
        have hgs := Nat.lt_of_lt_of_le hg HB.out.size
        clear d0 d1 d2
        by_cases he : ofL q = l ∧ ofF q = f ∧ ofS q = s
        · obtain ⟨j1, j2⟩ := HJ.out.1 q hlt he
          rw [he.1] at d0'
          rw [he.2.1] at d1'
          rw [he.2.2] at d2'
          have hq1 := run_eq_rplace_yes l f s
          have HBF : Hid (Below w.heap.size w (wr.alloc (.cells #[.int .i64 l, .int .i64 f, .int .i64 s] 26))) := below_next (below_next B6.out HB.out) (below_box wr _)
          subst j1 j2
          clear he
          go_wp2
          go_ret
          exact ⟨rfl, HBF.out⟩
        · have hq1 := run_eq_rplace_no he
          have HNN : Hid (NoneYet l f s (q + 1)) := fun j hj hh => by
            by_cases e : j = q
            · subst e; exact he hh
            · exact HNO.out j (by omega) hh
          have HBN : Hid (Below w5.heap.size w5 (wr.alloc (.cells #[.int .i64 (ofL q), .int .i64 (ofF q), .int .i64 (ofS q)] 26))) := HB.out.alloc HB.out.size _
          clear he
          go_wp2
          go_roundw
          case rel => exact ⟨q + 1, by omega, by go_num, HNN.out, HBN.out⟩
          case measure => simp [intOf]; omega
      · have hq8 : q = 1064 := by omega
        subst hq8
        obtain ⟨j1, j2⟩ := HJ.out.2 HNO.out
        have HBF : Hid (Below w.heap.size w wr) := below_next B6.out HB.out
        subst j1 j2
        clear hlt
        go_wp2
        go_ret
        exact ⟨rfl, HBF.out⟩
/-- A place that came in, opened. -/
theorem open_place {H : Type} {enc : TypeId × Value → H} {W : World} {base : Nat} {v : Value} {d : DataW H} {ps : List MemPlace}
    (hok : Value.okWide Tryd.prog W .any base 26 v) (h : DataW.Trod enc Tryd.prog W 0 (fun _ => true) true 26 v d ps) :
    ∃ s g i : Int, v = .agg #[.int .i64 s, .int .i64 g, .int .i64 i] := by
  obtain ⟨v0, v1, v2, y0, y1, y2, n, rfl, _, _, f0, f1, f2⟩ := Go.Joins.open_agg3 Tryd.underlying26 (by kernel_rfl) (by kernel_rfl) hok h
  obtain ⟨a, ha, _, wa⟩ := DataW.trod_int Tryd.underlying3 f0
  obtain ⟨b, hb, _, wb⟩ := DataW.trod_int Tryd.underlying3 f1
  obtain ⟨c, hc, _, wc⟩ := DataW.trod_int Tryd.underlying3 f2
  simp at ha hb hc
  subst ha hb hc
  exact ⟨a, b, c, rfl⟩
theorem ptrPlaces_met (os : Os) (args : Array Value) : laidMetH Tryd.prog [("drumlin/ptr.bounds", Rows.laid_drumlin_ptr_bounds)] ((World.doorLaid Tryd.prog 400 os).forCall (fun _ _ => 0) ⟨#[], args, []⟩).memory :=
  laidMetH_of_parts3 (fuel := 8) (laidMet_of_run' 8 (by kernel_rfl) (by kernel_rfl)) (by kernel_rfl) (by kernel_rfl)
set_option maxRecDepth 100000 in
theorem ptrPlaces_lifted (os : Os) (started : os.Started) (H : Type) (enc : TypeId × Value → H) :
    ReturnsInHanded {} Tryd.checked os 5 .any (fun w args => (Rows.ptrPlacesSpec.pre enc Tryd.prog Tryd.f5 [] false w args ∧ laidMetH Tryd.prog [("drumlin/ptr.bounds", Rows.laid_drumlin_ptr_bounds)] w) ∧ sizedMet enc Tryd.prog Tryd.f5 (OpenSpec.ofChange Rows.ptrPlacesSpec) false w args) (Rows.ptrPlacesSpec.post enc Tryd.prog Tryd.f5 false true false false) :=
  law_laid (s := Rows.ptrPlacesSpec) started Tryd.func5 (by kernel_rfl) rfl (fun ds hd => by
        match ds, hd with
        | [_, _], _ => rfl) rfl
      (of_decide_eq_true (by kernel_rfl))
      (ChangeSpec.witness_shaped (enc := enc) (C := Tryd.checked) (os := os) (X := fun w _ => laidMetH Tryd.prog [("drumlin/ptr.bounds", Rows.laid_drumlin_ptr_bounds)] w) false (World.doorLaid Tryd.prog 400 os) #[.int .i64 0, .agg #[.int .i64 0, .int .i64 0, .int .i64 0]] 8 rfl (World.shaped_of_RefB (by kernel_rfl) (by kernel_rfl)) (by kernel_rfl) (by kernel_rfl) (by kernel_rfl) (ptrPlaces_met os _))
      (fun W base args ds ps hval hA hsz hL => by
        rw [Tryd.params5] at hA hval hsz
        obtain ⟨v0, vs0, d0, ds0, p0, q0, hargs, rfl, rfl, h0, r0⟩ := trodAll_cons hA
        obtain ⟨v1, vs1, d1, ds1, p1, q1, rfl, rfl, rfl, h1, r1⟩ := trodAll_cons r0
        obtain ⟨rfl, rfl, rfl⟩ := trodAll_nil r1
        obtain rfl : args = #[v0, v1] := by cases args; simp_all
        simp only [DataW.weightsEach, List.all_append, Bool.and_eq_true] at hsz
        obtain ⟨z0, z1, _⟩ := hsz
        obtain ⟨s, rfl, rfl, rfl, wf⟩ := open_int Tryd.underlying3 (hval 0 3 v0 rfl rfl) h0
        obtain ⟨a, b, c, rfl⟩ := open_place (hval 1 26 v1 rfl rfl) h1
        exact ptrPlaces_walk s a b c W (bounds_of_laid hL) (i64_of_wf wf))

theorem ptrPlaces_holds : Rows.PtrPlacesSaid :=
  OpenClaim.holds_of_wide 5 Tryd.f5 rfl rfl rfl rfl rfl rfl rfl ⟨rfl, rfl, rfl, rfl, rfl⟩ rfl rfl rfl rfl rfl (by kernel_rfl) Tryd.func5 (by kernel_rfl)
    (of_decide_eq_true (by kernel_rfl)) (by unfold Func.isWrapper; first | (rw [if_pos (by decide +kernel)]; kernel_rfl) | (rw [if_neg (by decide +kernel)]; exact ⟨rfl, rfl⟩))
    (fun os started H enc _ => ptrPlaces_lifted os started H enc)
/-- The tied card. -/
theorem ptrPlaces_card : Rows.PtrPlacesCardSaid :=
  Claim7.holds_tied_plain_at .later [] [.data] true Rows.ptrPlacesCard.stood.harness false
    ptrPlaces_holds (fun _ h => by cases h) (by kernel_rfl) (fun _ h => by cases h) ptrPlaces_row_tie rfl ⟨rfl, rfl⟩ (by kernel_rfl) rfl
    (fun f fn hf hfn => by
      obtain rfl : f = 5 := Option.some.inj ((show Tryd.prog.funcNamed "drumlin/drumlinlaw07.PtrPlaces" = some 5 by kernel_rfl).symm.trans hf) |>.symm
      obtain rfl : fn = Tryd.f5 := (Option.some.inj (Tryd.func5.symm.trans hfn)).symm
      exact ⟨by kernel_rfl, fun j t ht => by
        rw [Tryd.params5] at ht
        have hm : t ∈ [3, 26] := by simpa using Array.mem_of_getElem? ht
        have hall : ([3, 26].all fun u => !Tryd.prog.wantsStandIn u) = true := by kernel_rfl
        exact (show Tryd.prog.wantsStandIn t = false by simpa using List.all_eq_true.1 hall t hm)⟩)
    (by kernel_rfl)
#print axioms ptrPlaces_card
end Go.Proofs.YthipeaighngpfaaDoor
