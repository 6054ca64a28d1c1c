/- The fixed fact of layer 4's laws, by its walk. -/
import Derived.Test.YtdgmkobjdhmkdaaGeo3
import Derived.Test.YtdgmkobjdhmkdaaGeoRef
namespace Go.Proofs.Ytdgmkobjdhmkdaa
open Go.RowKit Go.Sort
set_option linter.unusedVariables false
set_option maxRecDepth 100000

theorem awake4_true (w : World) : Calls Try.prog 31 #[] w fun e w' => e = .returned (.bool true) ∧ Below w.heap.size w w' := by
  have hB : bnd 20 2 10 := by unfold bnd; omega
  have hb0 := below_box w (.cells #[.int .i64 20, .int .i64 2, .int .i64 10] 67)
  have hbox := box3_new w (.int .i64 20) (.int .i64 2) (.int .i64 10) 67
  have H := Lib.hid hB
  have HM : Hid (mayB 20 2 10 = true) := by show _ = _; decide
  have HR : Hid (roomI 20 2 10 = 96) := by show _ = _; decide
  have HV : Hid (20 - mostI 20 2 10 = 14) := by show _ = _; decide
  have HS : Hid (sectorsI 20 2 10 = 369) := by show _ = _; decide
  have HG : Hid (groupI 20 2 10 0 1 + 1 + 0 = 19) := by show _ = _; decide
  have HI : Hid (inI 20 2 0 1) := by show inI _ _ _ _; unfold inI; omega
  clear hB
  go_enter Try.func31, Try.ntmps31
  go_wp2_with fail
  refine (gcheck_yes _ HM.out).mono ?_
  rintro e w1 ⟨rfl, b1⟩
  have hb1 := below_next hb0 b1
  obtain ⟨hg, c0, c1, c2⟩ := hbox.below b1
  clear hb0 hbox b1
  go_wp2_with fail
  refine (groom_is _ H.out).mono ?_
  rintro e w2 ⟨rfl, b2⟩
  rw [HR.out]
  have hb2 := below_next hb1 b2
  obtain ⟨hg2, d0, d1, d2⟩ := Box3.below ⟨hg, c0, c1, c2⟩ b2
  clear hb1 b2 c0 c1 c2 hg
  go_wp2_with fail
  refine (greserve_is _ H.out).mono ?_
  rintro e w3 ⟨rfl, b3⟩
  rw [HV.out]
  have hb3 := below_next hb2 b3
  obtain ⟨hg, c0, c1, c2⟩ := Box3.below ⟨hg2, d0, d1, d2⟩ b3
  clear hb2 b3 d0 d1 d2 hg2
  go_wp2_with fail
  refine (gsectors _ H.out).mono ?_
  rintro e w4 ⟨rfl, b4⟩
  rw [HS.out]
  have hb4 := below_next hb3 b4
  obtain ⟨hg2, d0, d1, d2⟩ := Box3.below ⟨hg, c0, c1, c2⟩ b4
  clear hb3 b4 c0 c1 c2 hg
  go_wp2_with fail
  refine (gblock 0 1 0 _ H.out HI.out (by decide)).mono ?_
  rintro e w5 ⟨rfl, b5⟩
  rw [HG.out]
  have hb5 := below_next hb4 b5
  go_wp2
  go_ret
  exact ⟨rfl, hb5⟩
end Go.Proofs.Ytdgmkobjdhmkdaa
