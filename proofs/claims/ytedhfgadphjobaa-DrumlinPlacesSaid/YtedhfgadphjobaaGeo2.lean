/- The program's geometry, by its walks: the counts. -/
import Derived.Test.YtedhfgadphjobaaGeo
namespace Go.Proofs.Ytedhfgadphjobaa
open Go.RowKit Go.Sort
set_option linter.unusedVariables false
set_option maxRecDepth 100000


/-- No error, or this one. -/
def errI (b : Bool) (k : Int) : Int := if b then 0 else k

theorem gmost_no {s g i : Int} (w : World) (h : ¬ bnd s g i) : Calls Try.prog 125 #[.agg #[.int .i64 s, .int .i64 g, .int .i64 i]] w fun e w' => e = .returned (.int .i64 0) ∧ Below w.heap.size w w' := by
  have hb := below_box w (.cells #[.int .i64 s, .int .i64 g, .int .i64 i] 67)
  have hr : bndB s g i = false := decide_eq_false h
  have HR := Lib.hid hr
  clear hr h
  go_enter Try.func125, Try.ntmps125
  go_wp2_with fail
  refine (bounded_is false _ HR.out).mono ?_
  rintro e w' ⟨rfl, b1⟩
  have b2 := below_next hb b1
  go_wp2
  go_ret
  exact ⟨rfl, b2⟩

theorem gmost_is {s g i : Int} (w : World) (h : bnd s g i) : Calls Try.prog 125 #[.agg #[.int .i64 s, .int .i64 g, .int .i64 i]] w fun e w' => e = .returned (.int .i64 (mostI s g i)) ∧ Below w.heap.size w w' := by
  have hb := below_box w (.cells #[.int .i64 s, .int .i64 g, .int .i64 i] 67)
  have hbox := box3_new w (.int .i64 s) (.int .i64 g) (.int .i64 i) 67
  have hr : bndB s g i = true := decide_eq_true h
  have HR := Lib.hid hr
  clear hr
  have H := Lib.hid h
  go_enter Try.func125, Try.ntmps125
  go_wp2_with fail
  refine (bounded_is true _ HR.out).mono ?_
  rintro e w1 ⟨rfl, b1⟩
  have b2 := below_next hb b1
  obtain ⟨hg, c0, c1, c2⟩ := hbox.below b1
  have k0 := cell_regrown c0
  have k1 := cell_regrown c1
  have k2 := cell_regrown c2
  clear b1 hbox hb
  have hc := chunks_bd h
  have hx : upI (chunksI i) (8 * g) = xI g i := rfl
  have HX := Lib.hid hx
  clear hx
  have hxb := xI_bd h
  unfold bnd at h
  go_wp2_with fail
  refine wp_region_quiet_below (by kernel_rfl) (by kernel_rfl) ?_
  repeat (go_big_quiet_step (first
    | (go_at_call 120; exact Calls.regrown_of (gchunks_is _ H.out))
    | (go_at_call 126; exact Calls.regrown_of (gcap_is _ H.out))
    | (go_at_call 135; exact regrown_same (parts_any _ _ _ (by omega) (by omega) (by omega) (by omega)))))
  refine wpQuiet_nil (regrown_name fun w2 b3 => ?_)
  rw [HX.out]
  obtain ⟨x, hxe⟩ : ∃ x, xI g i = x := ⟨_, rfl⟩
  rw [hxe] at hxb ⊢
  have d0 := (b3.cell (p := ⟨w.heap.size, 0, none⟩) hg).trans c0
  have b4 := below_next b2 b3
  clear c0 c1 c2 k0 k1 k2 HX b3 b2
  by_cases hn : s - 6 - 2 * x < 0
  · have hm : mostI s g i = 0 := by unfold mostI; rw [hxe, if_pos hn]
    have HM := Lib.hid hm
    clear hm hxe
    obtain ⟨y, hy, hy2, hy3⟩ : ∃ y : Int, (s - 6 - 2 * x).tdiv 2 = y ∧ y ≤ 0 ∧ -100 ≤ y := ⟨_, rfl, by
      have : (s - 6 - 2 * x).tdiv 2 = -((-(s - 6 - 2 * x)) / 2) := by
        rw [← Int.neg_neg (s - 6 - 2 * x), Int.neg_tdiv, Int.tdiv_eq_ediv_of_nonneg (by omega), Int.neg_neg]
      omega⟩
    have hy4 : wrap64 y ≤ 0 := by rw [IntWalk.wrap64_in y (by omega)]; exact hy2
    go_wp2
    all_goals (go_ret; exact ⟨ret_int (by first | (rw [HM.out]; omega) | rw [HM.out]), b4⟩)
  · have hm : mostI s g i = (s - 6 - 2 * x) / 2 := by unfold mostI; rw [hxe, if_neg hn]
    have HM := Lib.hid hm
    clear hm hxe
    go_wp2
    all_goals (go_ret; exact ⟨ret_int (by first | (rw [HM.out]; omega) | rw [HM.out]), b4⟩)

theorem groom_no {s g i : Int} (w : World) (h : ¬ bnd s g i) : Calls Try.prog 112 #[.agg #[.int .i64 s, .int .i64 g, .int .i64 i]] w fun e w' => e = .returned (.int .i64 0) ∧ Below w.heap.size w w' := by
  have hb := below_box w (.cells #[.int .i64 s, .int .i64 g, .int .i64 i] 67)
  obtain ⟨hg, c0, c1, c2⟩ := box3_new w (.int .i64 s) (.int .i64 g) (.int .i64 i) 67
  have H := Lib.hid h
  clear h
  go_enter Try.func112, Try.ntmps112
  go_wp2_with fail
  generalize w.alloc (.cells #[.int .i64 s, .int .i64 g, .int .i64 i] 67) = W at *
  have k0 := cell_regrown c0
  have k1 := cell_regrown c1
  have k2 := cell_regrown c2
  refine wp_region_quiet_below (by kernel_rfl) (by kernel_rfl) ?_
  repeat (go_big_quiet_step (first
    | (go_at_call 125; exact Calls.regrown_of (gmost_no _ H.out))
    | (go_at_call 126; exact Calls.regrown_of (gcap_any _ _ _ _))))
  refine wpQuiet_nil (regrown_name fun w2 b3 => ?_)
  go_wp2
  go_ret
  exact ⟨ret_int (by simp), below_next hb b3⟩

theorem groom_is {s g i : Int} (w : World) (h : bnd s g i) : Calls Try.prog 112 #[.agg #[.int .i64 s, .int .i64 g, .int .i64 i]] w fun e w' => e = .returned (.int .i64 (roomI s g i)) ∧ Below w.heap.size w w' := by
  have hb := below_box w (.cells #[.int .i64 s, .int .i64 g, .int .i64 i] 67)
  obtain ⟨hg, c0, c1, c2⟩ := box3_new w (.int .i64 s) (.int .i64 g) (.int .i64 i) 67
  have H := Lib.hid h
  have hm := mostI_bd h
  have hr : mostI s g i * (8 * g) = roomI s g i := rfl
  have hrb := room_bd h
  have hw : wrap64 (mostI s g i * (8 * g)) = roomI s g i := by rw [IntWalk.wrap64_in _ (by rw [hr]; omega), hr]
  have HW := Lib.hid hw
  clear h hr hrb hw
  go_enter Try.func112, Try.ntmps112
  go_wp2_with fail
  generalize w.alloc (.cells #[.int .i64 s, .int .i64 g, .int .i64 i] 67) = W at *
  have k0 := cell_regrown c0
  have k1 := cell_regrown c1
  have k2 := cell_regrown c2
  refine wp_region_quiet_below (by kernel_rfl) (by kernel_rfl) ?_
  repeat (go_big_quiet_step (first
    | (go_at_call 125; exact Calls.regrown_of (gmost_is _ H.out))
    | (go_at_call 126; exact Calls.regrown_of (gcap_is _ H.out))))
  refine wpQuiet_nil (regrown_name fun w2 b3 => ?_)
  go_wp2
  go_ret
  exact ⟨ret_int HW.out, below_next hb b3⟩

theorem gcheck_any (s g i : Int) (w : World) : Calls Try.prog 77 #[.agg #[.int .i64 s, .int .i64 g, .int .i64 i]] w fun e w' => e = .returned (.int .i64 (errI (mayB s g i) 1)) ∧ Below w.heap.size w w' := by
  have hb := below_box w (.cells #[.int .i64 s, .int .i64 g, .int .i64 i] 67)
  by_cases h : bnd s g i
  · have H := Lib.hid h
    have hrb := room_bd h
    have hm := mayB_room h
    clear h
    by_cases h8 : 8 ≤ roomI s g i
    · have HM : Hid (mayB s g i = true) := by show _ = _; rw [hm]; exact decide_eq_true h8
      clear hm
      go_enter Try.func77, Try.ntmps77
      go_wp2_with (go_at_call 112; refine (groom_is _ H.out).mono ?_; rintro e w' ⟨rfl, b1⟩)
      go_ret
      exact ⟨by rw [HM.out]; rfl, below_next hb b1⟩
    · have HM : Hid (mayB s g i = false) := by show _ = _; rw [hm]; exact decide_eq_false h8
      clear hm
      go_enter Try.func77, Try.ntmps77
      go_wp2_with (go_at_call 112; refine (groom_is _ H.out).mono ?_; rintro e w' ⟨rfl, b1⟩)
      go_ret
      exact ⟨by rw [HM.out]; rfl, below_next hb b1⟩
  · have HM : Hid (mayB s g i = false) := mayB_no h
    have H := Lib.hid h
    clear h
    go_enter Try.func77, Try.ntmps77
    go_wp2_with (go_at_call 112; refine (groom_no _ H.out).mono ?_; rintro e w' ⟨rfl, b1⟩)
    go_ret
    exact ⟨by rw [HM.out]; rfl, below_next hb b1⟩
theorem gcheck_yes {s g i : Int} (w : World) (h : mayB s g i = true) : Calls Try.prog 77 #[.agg #[.int .i64 s, .int .i64 g, .int .i64 i]] w fun e w' => e = .returned (.int .i64 0) ∧ Below w.heap.size w w' := by
  have := gcheck_any s g i w
  rwa [h] at this
theorem gcheck_no {s g i : Int} (w : World) (h : mayB s g i = false) : Calls Try.prog 77 #[.agg #[.int .i64 s, .int .i64 g, .int .i64 i]] w fun e w' => e = .returned (.int .i64 1) ∧ Below w.heap.size w w' := by
  have := gcheck_any s g i w
  rwa [h] at this
end Go.Proofs.Ytedhfgadphjobaa
