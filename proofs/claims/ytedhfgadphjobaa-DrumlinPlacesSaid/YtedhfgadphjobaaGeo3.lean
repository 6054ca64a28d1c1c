/- The program's geometry, by its walks: the places. -/
import Derived.Test.YtedhfgadphjobaaGeo2
namespace Go.Proofs.Ytedhfgadphjobaa
open Go.RowKit Go.Sort
set_option linter.unusedVariables false
set_option maxRecDepth 100000

theorem gregion_size {s g i : Int} (w : World) (h : bnd s g i) : Calls Try.prog 100 #[.agg #[.int .i64 s, .int .i64 g, .int .i64 i]] w fun e w' => e = .returned (.int .i64 (regI s i)) ∧ Below w.heap.size w w' := by
  have hb := below_box w (.cells #[.int .i64 s, .int .i64 g, .int .i64 i] 67)
  obtain ⟨hg, c0, c1, c2⟩ := box3_new w (.int .i64 s) (.int .i64 g) (.int .i64 i) 67
  have H := Lib.hid h
  have hc := chunks_bd h
  have ht := tables_bd h
  have hw1 : IntKind.i64.wrap (1 + chunksI i) = 1 + chunksI i := IntWalk.i64_in _ (by omega)
  have hw2 : IntKind.i64.wrap (1 + chunksI i + tablesI s) = regI s i := IntWalk.i64_in _ (by omega)
  go_enter Try.func100, Try.ntmps100
  go_wp2_with fail
  generalize w.alloc (.cells #[.int .i64 s, .int .i64 g, .int .i64 i] 67) = W at *
  have k0 := cell_regrown c0
  have k1 := cell_regrown c1
  have k2 := cell_regrown c2
  refine wp_region_quiet_below (by kernel_rfl) (by kernel_rfl) ?_
  repeat (go_big_quiet_step (first
    | (go_at_call 120; exact Calls.regrown_of (gchunks_is _ H.out))
    | (go_at_call 121; exact Calls.regrown_of (gtables_is _ H.out))))
  refine wpQuiet_nil (regrown_name fun w2 b3 => ?_)
  go_wp2
  go_ret
  exact ⟨rfl, below_next hb b3⟩

theorem glog_at {s g i : Int} (w : World) (h : bnd s g i) : Calls Try.prog 69 #[.agg #[.int .i64 s, .int .i64 g, .int .i64 i]] w fun e w' => e = .returned (.int .i64 (logI s i)) ∧ Below w.heap.size w w' := by
  have hb := below_box w (.cells #[.int .i64 s, .int .i64 g, .int .i64 i] 67)
  obtain ⟨hg, c0, c1, c2⟩ := box3_new w (.int .i64 s) (.int .i64 g) (.int .i64 i) 67
  have H := Lib.hid h
  have hr := reg_bd h
  have he : logI s i = 1 + 2 * regI s i := rfl
  have HE := Lib.hid he
  clear he
  go_enter Try.func69, Try.ntmps69
  go_wp2_with (go_at_call 100; refine (gregion_size _ H.out).mono ?_; rintro e w' ⟨rfl, b1⟩)
  go_ret
  exact ⟨ret_int HE.out.symm, below_next hb b1⟩

theorem gsectors {s g i : Int} (w : World) (h : bnd s g i) : Calls Try.prog 32 #[.agg #[.int .i64 s, .int .i64 g, .int .i64 i]] w fun e w' => e = .returned (.int .i64 (sectorsI s g i)) ∧ Below w.heap.size w w' := by
  have hb := below_box w (.cells #[.int .i64 s, .int .i64 g, .int .i64 i] 67)
  obtain ⟨hg, c0, c1, c2⟩ := box3_new w (.int .i64 s) (.int .i64 g) (.int .i64 i) 67
  have H := Lib.hid h
  have hl := log_bd h
  have hs := segs_bd h
  have hw1 : IntKind.i64.wrap (s * g) = s * g := IntWalk.i64_in _ (by omega)
  have hw2 : IntKind.i64.wrap (s * g * 9) = s * g * 9 := IntWalk.i64_in _ (by omega)
  have hw3 : IntKind.i64.wrap (logI s i + s * g * 9) = sectorsI s g i := IntWalk.i64_in _ (by omega)
  go_enter Try.func32, Try.ntmps32
  go_wp2_with fail
  generalize w.alloc (.cells #[.int .i64 s, .int .i64 g, .int .i64 i] 67) = W at *
  have k0 := cell_regrown c0
  have k1 := cell_regrown c1
  have k2 := cell_regrown c2
  refine wp_region_quiet_below (by kernel_rfl) (by kernel_rfl) ?_
  repeat (go_big_quiet_step (first
    | (go_at_call 69; exact Calls.regrown_of (glog_at _ H.out))))
  refine wpQuiet_nil (regrown_name fun w2 b3 => ?_)
  go_wp2
  go_ret
  exact ⟨rfl, below_next hb b3⟩

/-- Where a region begins. -/
def regionI (s i a : Int) : Int := if 0 ≤ a ∧ a ≤ 1 then 1 + a * regI s i else -1
/-- Where a group begins, and its blocks. -/
def groupI (s g i a b : Int) : Int := logI s i + (a * g + b) * 9
def inI (s g a b : Int) : Prop := 0 ≤ a ∧ a < s ∧ 0 ≤ b ∧ b < g
theorem place_bd {s g i a b : Int} (h : bnd s g i) (k : inI s g a b) : 0 ≤ a * g ∧ a * g + b < s * g ∧ a * g + b ≤ 6400 ∧ a * g + g ≤ s * g := by
  have hs := segs_bd h
  unfold bnd at h
  obtain ⟨k1, k2, k3, k4⟩ := k
  have h1 : 0 ≤ a * g := Int.mul_nonneg k1 (by omega)
  have h2 : (a + 1) * g ≤ s * g := Int.mul_le_mul_of_nonneg_right (by omega) (by omega)
  rw [Int.add_mul, Int.one_mul] at h2
  omega
theorem gsummary {s g i : Int} (a b : Int) (w : World) (h : bnd s g i) (k : inI s g a b) : Calls Try.prog 73 #[.agg #[.int .i64 s, .int .i64 g, .int .i64 i], .int .i64 a, .int .i64 b] w fun e w' => e = .returned (.int .i64 (groupI s g i a b)) ∧ Below w.heap.size w w' := by
  have hb := below_box w (.cells #[.int .i64 s, .int .i64 g, .int .i64 i] 67)
  obtain ⟨hg, c0, c1, c2⟩ := box3_new w (.int .i64 s) (.int .i64 g) (.int .i64 i) 67
  have H := Lib.hid h
  have hl := log_bd h
  have hp := place_bd h k
  obtain ⟨k1, k2, k3, k4⟩ := k
  have HA := Lib.hid (amongB_yes (n := a) (lo := 0) (hi := s - 1) (by omega))
  have HB := Lib.hid (amongB_yes (n := b) (lo := 0) (hi := g - 1) (by omega))
  unfold bnd at h
  go_enter Try.func73, Try.ntmps73
  go_wp2_with fail
  refine (among_is true _ _ _ _ HA.out).mono ?_
  rintro e w' ⟨rfl, rfl⟩
  go_wp2_with fail
  refine (among_is true _ _ _ _ HB.out).mono ?_
  rintro e w' ⟨rfl, rfl⟩
  have hw1 : IntKind.i64.wrap (a * g) = a * g := IntWalk.i64_in _ (by omega)
  have hw2 : IntKind.i64.wrap (a * g + b) = a * g + b := IntWalk.i64_in _ (by omega)
  have hw3 : IntKind.i64.wrap ((a * g + b) * 9) = (a * g + b) * 9 := IntWalk.i64_in _ (by omega)
  have hw4 : IntKind.i64.wrap (logI s i + (a * g + b) * 9) = groupI s g i a b := IntWalk.i64_in _ (by omega)
  go_wp2_with fail
  generalize w.alloc (.cells #[.int .i64 s, .int .i64 g, .int .i64 i] 67) = W at *
  have k0 := cell_regrown c0
  have k1 := cell_regrown c1
  have k2 := cell_regrown c2
  refine wp_region_quiet_below (by kernel_rfl) (by kernel_rfl) ?_
  repeat (go_big_quiet_step (first
    | (go_at_call 69; exact Calls.regrown_of (glog_at _ H.out))))
  refine wpQuiet_nil (regrown_name fun w2 b3 => ?_)
  go_wp2
  go_ret
  exact ⟨rfl, below_next hb b3⟩
theorem gsummary_no {s g i : Int} (a b : Int) (w : World) (h : bnd s g i) (k : ¬ inI s g a b) : Calls Try.prog 73 #[.agg #[.int .i64 s, .int .i64 g, .int .i64 i], .int .i64 a, .int .i64 b] w fun e w' => e = .returned (.int .i64 (-1)) ∧ Below w.heap.size w w' := by
  have hb := below_box w (.cells #[.int .i64 s, .int .i64 g, .int .i64 i] 67)
  obtain ⟨hg, c0, c1, c2⟩ := box3_new w (.int .i64 s) (.int .i64 g) (.int .i64 i) 67
  have H := Lib.hid h
  unfold inI at k
  unfold bnd at h
  by_cases ha : 0 ≤ a ∧ a ≤ s - 1
  · have HA := Lib.hid (amongB_yes ha)
    have HB := Lib.hid (amongB_no (n := b) (lo := 0) (hi := g - 1) (by omega))
    clear k ha
    go_enter Try.func73, Try.ntmps73
    go_wp2_with fail
    refine (among_is true _ _ _ _ HA.out).mono ?_
    rintro e w' ⟨rfl, rfl⟩
    go_wp2_with fail
    refine (among_is false _ _ _ _ HB.out).mono ?_
    rintro e w' ⟨rfl, rfl⟩
    go_wp2
    go_ret
    exact ⟨rfl, hb⟩
  · have HA := Lib.hid (amongB_no ha)
    clear k ha
    go_enter Try.func73, Try.ntmps73
    go_wp2_with fail
    refine (among_is false _ _ _ _ HA.out).mono ?_
    rintro e w' ⟨rfl, rfl⟩
    go_wp2
    go_ret
    exact ⟨rfl, hb⟩

theorem group_bd {s g i a b : Int} (h : bnd s g i) (k : inI s g a b) : 7 ≤ groupI s g i a b ∧ groupI s g i a b + 9 ≤ sectorsI s g i := by
  have h1 := place_bd h k
  have h2 := log_bd h
  obtain ⟨k1, k2, k3, k4⟩ := k
  unfold groupI sectorsI
  omega
theorem gblock {s g i : Int} (a b c : Int) (w : World) (h : bnd s g i) (k : inI s g a b) (hc : 0 ≤ c ∧ c ≤ 7) : Calls Try.prog 36 #[.agg #[.int .i64 s, .int .i64 g, .int .i64 i], .int .i64 a, .int .i64 b, .int .i64 c] w fun e w' => e = .returned (.int .i64 (groupI s g i a b + 1 + c)) ∧ Below w.heap.size w w' := by
  have hb := below_box w (.cells #[.int .i64 s, .int .i64 g, .int .i64 i] 67)
  obtain ⟨hg, c0, c1, c2⟩ := box3_new w (.int .i64 s) (.int .i64 g) (.int .i64 i) 67
  have H := Lib.hid h
  have hgb := group_bd h k
  have hsb := sectors_bd h
  have K := Lib.hid k
  have HC := Lib.hid (amongB_yes hc)
  clear h k
  go_enter Try.func36, Try.ntmps36
  go_wp2_with fail
  refine (gsummary a b _ H.out K.out).mono ?_
  rintro e w' ⟨rfl, b1⟩
  go_wp2_with fail
  refine (among_is true _ _ _ _ HC.out).mono ?_
  rintro e w' ⟨rfl, rfl⟩
  go_wp2
  go_ret
  exact ⟨rfl, below_next hb b1⟩
theorem gblock_no {s g i : Int} (a b c : Int) (w : World) (h : bnd s g i) (k : ¬ (inI s g a b ∧ 0 ≤ c ∧ c ≤ 7)) : Calls Try.prog 36 #[.agg #[.int .i64 s, .int .i64 g, .int .i64 i], .int .i64 a, .int .i64 b, .int .i64 c] w fun e w' => e = .returned (.int .i64 (-1)) ∧ Below w.heap.size w w' := by
  have hb := below_box w (.cells #[.int .i64 s, .int .i64 g, .int .i64 i] 67)
  obtain ⟨hg, c0, c1, c2⟩ := box3_new w (.int .i64 s) (.int .i64 g) (.int .i64 i) 67
  have H := Lib.hid h
  by_cases ha : inI s g a b
  · have hc : ¬ (0 ≤ c ∧ c ≤ 7) := fun hc => k ⟨ha, hc⟩
    have hgb := group_bd h ha
    have hsb := sectors_bd h
    have K := Lib.hid ha
    have HC := Lib.hid (amongB_no hc)
    clear h k ha hc
    go_enter Try.func36, Try.ntmps36
    go_wp2_with fail
    refine (gsummary a b _ H.out K.out).mono ?_
    rintro e w' ⟨rfl, b1⟩
    go_wp2_with fail
    refine (among_is false _ _ _ _ HC.out).mono ?_
    rintro e w' ⟨rfl, rfl⟩
    go_wp2
    go_ret
    exact ⟨rfl, below_next hb b1⟩
  · have K := Lib.hid ha
    clear h k ha
    go_enter Try.func36, Try.ntmps36
    go_wp2_with fail
    refine (gsummary_no a b _ H.out K.out).mono ?_
    rintro e w' ⟨rfl, b1⟩
    go_wp2
    go_ret
    exact ⟨rfl, below_next hb b1⟩
end Go.Proofs.Ytedhfgadphjobaa
