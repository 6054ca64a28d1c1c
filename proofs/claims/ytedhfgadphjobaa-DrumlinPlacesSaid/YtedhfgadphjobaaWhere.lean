/- Which block a sector is, by the program's walk. -/
import Derived.Test.YtedhfgadphjobaaGeo3
namespace Go.Proofs.Ytedhfgadphjobaa
open Go.RowKit Go.Sort
set_option linter.unusedVariables false
set_option maxRecDepth 100000

/-- Is the sector a block's? -/
def whereP (s g i a : Int) : Prop := logI s i ≤ a ∧ a < sectorsI s g i ∧ (a - logI s i) % 9 ≠ 0
theorem where_bd {s g i a : Int} (h : bnd s g i) (k : whereP s g i a) : 0 ≤ a - logI s i ∧ 0 ≤ (a - logI s i) / 9 ∧ (a - logI s i) / 9 < s * g ∧ 1 ≤ (a - logI s i) % 9 ∧ (a - logI s i) % 9 ≤ 8 := by
  obtain ⟨k1, k2, k3⟩ := k
  unfold sectorsI at k2
  generalize s * g = m at *
  omega

theorem results4 {fn : Func} {t u v x : Tmp} (h : fn.results = #[.tmp t, .tmp u, .tmp v, .tmp x]) (tmps : Array Value) (P : Program) (w : World) :
    (results fn tmps).run P w = .ok (.tuple #[tmps.getD t undef, tmps.getD u undef, tmps.getD v undef, tmps.getD x undef]) w := by simp [results, h]

theorem gwhere_yes {s g i : Int} (a : Int) (w : World) (h : bnd s g i) (k : whereP s g i a) : Calls Try.prog 37 #[.agg #[.int .i64 s, .int .i64 g, .int .i64 i], .int .i64 a] w
    fun e w' => e = .returned (.tuple #[.int .i64 ((a - logI s i) / 9 / g), .int .i64 ((a - logI s i) / 9 % g), .int .i64 ((a - logI s i) % 9 - 1), .bool true]) ∧ Below w.heap.size w w' := by
  have hb := below_box w (.cells #[.int .i64 s, .int .i64 g, .int .i64 i] 67)
  have hx := box3_new w (.int .i64 s) (.int .i64 g) (.int .i64 i) 67
  have H := Lib.hid h
  have hl := log_bd h
  have hs := sectors_bd h
  have hwb := where_bd h k
  have hgs := segs_bd h
  obtain ⟨k1, k2, k3⟩ := k
  unfold bnd at h
  have hg0 : ((g : Int) == 0) = false := by simp; omega
  go_enter Try.func37, Try.ntmps37
  go_wp2_with fail
  refine (glog_at _ H.out).mono ?_
  rintro e w1 ⟨rfl, b1⟩
  have hb1 := below_next hb b1
  obtain ⟨hg, c0, c1, c2⟩ := hx.below b1
  clear hb b1 hx
  go_wp2_with fail
  refine (gsectors _ H.out).mono ?_
  rintro e w2 ⟨rfl, b2⟩
  have hb2 := below_next hb1 b2
  obtain ⟨hg2, d0, d1, d2⟩ := Box3.below ⟨hg, c0, c1, c2⟩ b2
  clear hb1 b2 c0 c1 c2 hg
  go_wp2_with fail
  refine (glog_at _ H.out).mono ?_
  rintro e w3 ⟨rfl, b3⟩
  have hb3 := below_next hb2 b3
  obtain ⟨hg, c0, c1, c2⟩ := Box3.below ⟨hg2, d0, d1, d2⟩ b3
  clear hb2 b3 d0 d1 d2 hg2
  go_wp2_with fail
  refine (glog_at _ H.out).mono ?_
  rintro e w4 ⟨rfl, b4⟩
  have hb4 := below_next hb3 b4
  obtain ⟨hg2, d0, d1, d2⟩ := Box3.below ⟨hg, c0, c1, c2⟩ b4
  clear hb3 b4 c0 c1 c2 hg
  obtain ⟨q, hq⟩ : ∃ q, (a - logI s i) / 9 = q := ⟨_, rfl⟩
  obtain ⟨r, hr⟩ : ∃ r, (a - logI s i) % 9 = r := ⟨_, rfl⟩
  rw [hq, hr] at hwb
  go_wp2_with fail
  have k0 := cell_regrown d0
  have k1' := cell_regrown d1
  have k2' := cell_regrown d2
  refine wp_region_quiet_below (by kernel_rfl) (by kernel_rfl) ?_
  repeat (go_big_quiet_step (fail))
  refine wpQuiet_nil (regrown_name fun w5 b5 => ?_)
  go_wp2
  refine bodyPost_ret (results4 rfl _ _ _) rfl ⟨?_, below_next hb4 b5⟩
  rw [hq, hr]
  rfl

theorem gwhere_no {s g i : Int} (a : Int) (w : World) (ha : -9223372036854775808 ≤ a ∧ a ≤ 9223372036854775807) (h : bnd s g i) (k : ¬ whereP s g i a) : Calls Try.prog 37 #[.agg #[.int .i64 s, .int .i64 g, .int .i64 i], .int .i64 a] w
    fun e w' => e = .returned (.tuple #[.int .i64 0, .int .i64 0, .int .i64 0, .bool false]) ∧ Below w.heap.size w w' := by
  have hb := below_box w (.cells #[.int .i64 s, .int .i64 g, .int .i64 i] 67)
  have hx := box3_new w (.int .i64 s) (.int .i64 g) (.int .i64 i) 67
  have H := Lib.hid h
  have hl := log_bd h
  have hs := sectors_bd h
  clear h
  by_cases k1 : a < logI s i
  · clear k
    go_enter Try.func37, Try.ntmps37
    go_wp2_with fail
    refine (glog_at _ H.out).mono ?_
    rintro e w1 ⟨rfl, b1⟩
    have hb1 := below_next hb b1
    clear hb b1 hx
    go_wp2
    exact bodyPost_ret (results4 rfl _ _ _) rfl ⟨rfl, hb1⟩
  by_cases k2 : sectorsI s g i ≤ a
  · clear k
    go_enter Try.func37, Try.ntmps37
    go_wp2_with fail
    refine (glog_at _ H.out).mono ?_
    rintro e w1 ⟨rfl, b1⟩
    have hb1 := below_next hb b1
    obtain ⟨hg, c0, c1, c2⟩ := hx.below b1
    clear hb b1 hx
    go_wp2_with fail
    refine (gsectors _ H.out).mono ?_
    rintro e w2 ⟨rfl, b2⟩
    have hb2 := below_next hb1 b2
    clear hb1 b2 c0 c1 c2 hg
    go_wp2
    exact bodyPost_ret (results4 rfl _ _ _) rfl ⟨rfl, hb2⟩
  have k3 : (a - logI s i) % 9 = 0 := by
    have k4 : ¬ ((a - logI s i) % 9 ≠ 0) := fun h9 => k ⟨by omega, by omega, h9⟩
    omega
  have K3 := Lib.hid k3
  have k3' : (a - logI s i) % 9 ≤ 0 := by omega
  clear k k3
  go_enter Try.func37, Try.ntmps37
  go_wp2_with fail
  refine (glog_at _ H.out).mono ?_
  rintro e w1 ⟨rfl, b1⟩
  have hb1 := below_next hb b1
  obtain ⟨hg, c0, c1, c2⟩ := hx.below b1
  clear hb b1 hx
  go_wp2_with fail
  refine (gsectors _ H.out).mono ?_
  rintro e w2 ⟨rfl, b2⟩
  have hb2 := below_next hb1 b2
  obtain ⟨hg2, d0, d1, d2⟩ := Box3.below ⟨hg, c0, c1, c2⟩ b2
  clear hb1 b2 c0 c1 c2 hg
  go_wp2_with fail
  refine (glog_at _ H.out).mono ?_
  rintro e w3 ⟨rfl, b3⟩
  have hb3 := below_next hb2 b3
  obtain ⟨hg, c0, c1, c2⟩ := Box3.below ⟨hg2, d0, d1, d2⟩ b3
  clear hb2 b3 d0 d1 d2 hg2
  go_wp2_with fail
  refine (glog_at _ H.out).mono ?_
  rintro e w4 ⟨rfl, b4⟩
  have hb4 := below_next hb3 b4
  clear hb3 b4 c0 c1 c2 hg
  go_wp2
  exact bodyPost_ret (results4 rfl _ _ _) rfl ⟨rfl, hb4⟩
end Go.Proofs.Ytedhfgadphjobaa
