/- The law GeomChecks is true for every input: a geometry may be just where the document says so, with its counts. No condition. -/
import Derived.Test.YtdgmkobjdhmkdaaAwake4
import Derived.Test.YtdgmkobjdhmkdaaGeoOpen
namespace Go.Proofs.Ytdgmkobjdhmkdaa
open Go.ChangeShapes Go.WideShapes Go.ChangeAt Go.RowKit Go.Sort
set_option linter.unusedVariables false
set_option maxRecDepth 100000

set_option maxHeartbeats 1600000 in
theorem geomChecks_no (s g i : Int) (w : World) (hB : ¬ bnd s g i) :
    Calls Try.prog 8 #[.agg #[.int .i64 s, .int .i64 g, .int .i64 i]] w fun e w' => e = .returned (.bool true) ∧ Below w.heap.size w w' := by
  have hb0 := below_box w (.cells #[.int .i64 s, .int .i64 g, .int .i64 i] 66)
  have hbox := box3_new w (.int .i64 s) (.int .i64 g) (.int .i64 i) 66
  have HM : Hid (mayB s g i = false) := mayB_no hB
  have hc : s < 8 ∨ (8 ≤ s ∧ 200 < s) ∨ (8 ≤ s ∧ s ≤ 200 ∧ g < 1) ∨ (8 ≤ s ∧ s ≤ 200 ∧ 1 ≤ g ∧ 32 < g) ∨ (8 ≤ s ∧ s ≤ 200 ∧ 1 ≤ g ∧ g ≤ 32 ∧ i < 2) ∨ (8 ≤ s ∧ s ≤ 200 ∧ 1 ≤ g ∧ g ≤ 32 ∧ 2 ≤ i ∧ 200 < i) := by
    unfold bnd at hB; omega
  clear hB
  rcases hc with hc | hc | hc | hc | hc | hc
  all_goals
    go_enter Try.func8, Try.ntmps8
    go_wp2_with fail
    refine (awake4_true _).mono ?_
    rintro e w1 ⟨rfl, b1⟩
    have hb1 := below_next hb0 b1
    obtain ⟨hg, c0, c1, c2⟩ := hbox.below b1
    clear hb0 hbox b1
    go_wp2_with fail
    refine (own_any s g i _).mono ?_
    rintro e w2 ⟨rfl, b2⟩
    have hb2 := below_next hb1 b2
    have hbx := Box3.below ⟨hg, c0, c1, c2⟩ b2
    have hb3 := hb2.alloc hb2.size (.cells #[.int .i64 s, .int .i64 g, .int .i64 i] 67)
    have hby := box3_new w2 (.int .i64 s) (.int .i64 g) (.int .i64 i) 67
    have hbx2 := hbx.below (below_box w2 (.cells #[.int .i64 s, .int .i64 g, .int .i64 i] 67))
    clear hb1 b2 hb2 hbx c0 c1 c2 hg
    obtain ⟨hg, c0, c1, c2⟩ := hbx2
    obtain ⟨hg', d0, d1, d2⟩ := hby
    go_wp2_with fail
    refine (gcheck_no _ HM.out).mono ?_
    rintro e w3 ⟨rfl, b3⟩
    have hb4 := below_next hb3 b3
    go_wp2
    go_ret
    exact ⟨rfl, hb4⟩

set_option maxHeartbeats 1600000 in
theorem geomChecks_walk (s g i : Int) (w : World) :
    Calls Try.prog 8 #[.agg #[.int .i64 s, .int .i64 g, .int .i64 i]] w fun e w' => e = .returned (.bool true) ∧ Below w.heap.size w w' := by
  have hb0 := below_box w (.cells #[.int .i64 s, .int .i64 g, .int .i64 i] 66)
  have hbox := box3_new w (.int .i64 s) (.int .i64 g) (.int .i64 i) 66
  by_cases hB : bnd s g i
  · have H := Lib.hid hB
    by_cases hM : mayB s g i = true
    · have HM := Lib.hid hM
      have hmb := mostI_bd hB
      have hBU := hB
      unfold bnd at hBU
      clear hM hB
      go_enter Try.func8, Try.ntmps8
      go_wp2_with fail
      refine (awake4_true _).mono ?_
      rintro e w1 ⟨rfl, b1⟩
      have hb1 := below_next hb0 b1
      obtain ⟨hg, c0, c1, c2⟩ := hbox.below b1
      clear hb0 hbox b1
      go_wp2_with fail
      refine (own_any s g i _).mono ?_
      rintro e w2 ⟨rfl, b2⟩
      have hb2 := below_next hb1 b2
      have hbx := Box3.below ⟨hg, c0, c1, c2⟩ b2
      have hb3 := hb2.alloc hb2.size (.cells #[.int .i64 s, .int .i64 g, .int .i64 i] 67)
      have hby := box3_new w2 (.int .i64 s) (.int .i64 g) (.int .i64 i) 67
      have hbx2 := hbx.below (below_box w2 (.cells #[.int .i64 s, .int .i64 g, .int .i64 i] 67))
      clear hb1 b2 hb2 hbx c0 c1 c2 hg
      obtain ⟨hg, c0, c1, c2⟩ := hbx2
      obtain ⟨hg', d0, d1, d2⟩ := hby
      go_wp2_with fail
      generalize w2.alloc (.cells #[.int .i64 s, .int .i64 g, .int .i64 i] 67) = W at *
      have k0 := cell_regrown c0
      have k1 := cell_regrown c1
      have k2 := cell_regrown c2
      have l0 := cell_regrown d0
      have l1 := cell_regrown d1
      have l2 := cell_regrown d2
      refine wp_region_quiet_below (by kernel_rfl) (by kernel_rfl) ?_
      repeat (go_big_quiet_step (first
        | (go_at_call 33; exact Calls.regrown_of (gcheck_yes _ HM.out))
        | (go_at_call 34; exact Calls.regrown_of (rmay_is true _ HM.out))))
      refine wpQuiet_nil (regrown_name fun w3 b3 => ?_)
      have hb4 := below_next hb3 b3
      obtain ⟨hg2, c0, c1, c2⟩ := Box3.below ⟨hg, c0, c1, c2⟩ b3
      obtain ⟨hg3, d0, d1, d2⟩ := Box3.below ⟨hg', d0, d1, d2⟩ b3
      clear k0 k1 k2 l0 l1 l2 hb3 b3 hg hg'
      have k0 := cell_regrown c0
      have k1 := cell_regrown c1
      have k2 := cell_regrown c2
      have l0 := cell_regrown d0
      have l1 := cell_regrown d1
      have l2 := cell_regrown d2
      go_wp2_with fail
      have hw1 : IntKind.i64.wrap (s - mostI s g i) = s - mostI s g i := IntWalk.i64_in _ (by omega)
      have hw2 : IntKind.i64.wrap (mostI s g i + 4) = mostI s g i + 4 := IntWalk.i64_in _ (by omega)
      have ht : decide (mostI s g i + 4 < s - mostI s g i) = true := decide_eq_true (by omega)
      refine wp_region_quiet_below (by kernel_rfl) (by kernel_rfl) ?_
      repeat (go_big_quiet_step (first
        | (go_at_call 34; exact Calls.regrown_of (rmay_is true _ HM.out))
        | (go_at_call 35; exact Calls.regrown_of (gcap_is _ H.out))
        | (go_at_call 36; exact Calls.regrown_of (rcap_is _ H.out))
        | (go_at_call 37; exact Calls.regrown_of (gchunks_is _ H.out))
        | (go_at_call 38; exact Calls.regrown_of (rchunks_is _ H.out))
        | (go_at_call 39; exact Calls.regrown_of (gtables_is _ H.out))
        | (go_at_call 40; exact Calls.regrown_of (rtables_is _ H.out))
        | (go_at_call 41; exact Calls.regrown_of (gmost_is _ H.out))
        | (go_at_call 42; exact Calls.regrown_of (rmost_is _ H.out))
        | (go_at_call 43; exact Calls.regrown_of (groom_is _ H.out))
        | (go_at_call 44; exact Calls.regrown_of (rroom_is _ H.out))
        | (go_at_call 45; exact Calls.regrown_of (greserve_is _ H.out))))
      refine wpQuiet_nil (regrown_name fun w4 b4 => ?_)
      go_wp2
      go_ret
      exact ⟨rfl, below_next hb4 b4⟩
    · have HM : Hid (mayB s g i = false) := by show _ = _; simpa using hM
      unfold bnd at hB
      clear hM
      go_enter Try.func8, Try.ntmps8
      go_wp2_with fail
      refine (awake4_true _).mono ?_
      rintro e w1 ⟨rfl, b1⟩
      have hb1 := below_next hb0 b1
      obtain ⟨hg, c0, c1, c2⟩ := hbox.below b1
      clear hb0 hbox b1
      go_wp2_with fail
      refine (own_any s g i _).mono ?_
      rintro e w2 ⟨rfl, b2⟩
      have hb2 := below_next hb1 b2
      have hbx := Box3.below ⟨hg, c0, c1, c2⟩ b2
      have hb3 := hb2.alloc hb2.size (.cells #[.int .i64 s, .int .i64 g, .int .i64 i] 67)
      have hby := box3_new w2 (.int .i64 s) (.int .i64 g) (.int .i64 i) 67
      have hbx2 := hbx.below (below_box w2 (.cells #[.int .i64 s, .int .i64 g, .int .i64 i] 67))
      clear hb1 b2 hb2 hbx c0 c1 c2 hg
      obtain ⟨hg, c0, c1, c2⟩ := hbx2
      obtain ⟨hg', d0, d1, d2⟩ := hby
      go_wp2_with fail
      generalize w2.alloc (.cells #[.int .i64 s, .int .i64 g, .int .i64 i] 67) = W at *
      have k0 := cell_regrown c0
      have k1 := cell_regrown c1
      have k2 := cell_regrown c2
      have l0 := cell_regrown d0
      have l1 := cell_regrown d1
      have l2 := cell_regrown d2
      refine wp_region_quiet_below (by kernel_rfl) (by kernel_rfl) ?_
      repeat (go_big_quiet_step (first
        | (go_at_call 33; exact Calls.regrown_of (gcheck_no _ HM.out))
        | (go_at_call 34; exact Calls.regrown_of (rmay_is false _ HM.out))))
      refine wpQuiet_nil (regrown_name fun w3 b3 => ?_)
      have hb4 := below_next hb3 b3
      obtain ⟨hg2, c0, c1, c2⟩ := Box3.below ⟨hg, c0, c1, c2⟩ b3
      obtain ⟨hg3, d0, d1, d2⟩ := Box3.below ⟨hg', d0, d1, d2⟩ b3
      clear k0 k1 k2 l0 l1 l2 hb3 b3 hg hg'
      have k0 := cell_regrown c0
      have k1 := cell_regrown c1
      have k2 := cell_regrown c2
      have l0 := cell_regrown d0
      have l1 := cell_regrown d1
      have l2 := cell_regrown d2
      go_wp2_with fail
      refine wp_region_quiet_below (by kernel_rfl) (by kernel_rfl) ?_
      repeat (go_big_quiet_step (first
        | (go_at_call 34; exact Calls.regrown_of (rmay_is false _ HM.out))))
      refine wpQuiet_nil (regrown_name fun w4 b4 => ?_)
      go_wp2
      go_ret
      exact ⟨rfl, below_next hb4 b4⟩
  · exact geomChecks_no s g i w hB

set_option maxRecDepth 100000 in
theorem geomChecks_lifted (os : Os) (started : os.Started) (H : Type) (enc : TypeId × Value → H) :
    ReturnsInHanded {} Try.checked os 8 .any (Rows.geomChecksSpec.pre6 enc Try.prog Try.f8 Rows.geomChecksRow.domain false) (Rows.geomChecksSpec.post enc Try.prog Try.f8 false true false false) :=
  law_lifted (s := Rows.geomChecksSpec) started Try.func8 (by kernel_rfl) rfl (fun ds hd => by
        match ds, hd with
        | [_], _ => rfl) rfl
      (of_decide_eq_true (by kernel_rfl))
      (ChangeSpec.witness6 (enc := enc) (C := Try.checked) false ⟨#[], #[.agg #[.int .i64 0, .int .i64 0, .int .i64 0]], []⟩ 8 (by kernel_rfl) (by kernel_rfl) (by kernel_rfl) (by kernel_rfl))
      (fun W base args ds ps hval hA hsz => by
        rw [Try.params8] at hA hval hsz
        obtain ⟨v0, vs0, d0, ds0, p0, q0, hargs, rfl, rfl, h0, r0⟩ := trodAll_cons hA
        obtain ⟨rfl, rfl, rfl⟩ := trodAll_nil r0
        obtain rfl : args = #[v0] := by cases args; simp_all
        simp only [DataW.weightsEach, List.all_append, Bool.and_eq_true] at hsz
        obtain ⟨z0, _⟩ := hsz
        obtain ⟨s, g, i, rfl, _, _, _⟩ := open_geom (hval 0 66 v0 rfl rfl) h0
        exact geomChecks_walk s g i W)

theorem geomChecks_holds : Rows.GeomChecksSaid :=
  OpenClaim.holds_of_wide 8 Try.f8 rfl rfl rfl rfl rfl rfl rfl ⟨rfl, rfl, rfl, rfl, rfl⟩ rfl rfl rfl rfl rfl (by kernel_rfl) Try.func8 (by kernel_rfl)
    (of_decide_eq_true (by kernel_rfl)) (by unfold Func.isWrapper; first | (rw [if_pos (by decide +kernel)]; kernel_rfl) | (rw [if_neg (by decide +kernel)]; exact ⟨rfl, rfl⟩))
    (fun os started H enc _ => geomChecks_lifted os started H enc)
#print axioms geomChecks_holds
end Go.Proofs.Ytdgmkobjdhmkdaa
