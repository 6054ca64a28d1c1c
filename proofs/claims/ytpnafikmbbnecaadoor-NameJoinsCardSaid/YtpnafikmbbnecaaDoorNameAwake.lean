/- Layer 8's fixed fact, walked. -/
import Derived.Test.YtpnafikmbbnecaaDoorNameLaw
namespace Go.Proofs.YtpnafikmbbnecaaDoor
open Go.RowKit Go.Sort
set_option linter.unusedVariables false
set_option linter.unusedSimpArgs false
set_option maxRecDepth 100000

theorem awake8_path : parseE [47, 97, 47, 47, 46, 47, 98, 47] = 0 ∧ pAbs [47, 97, 47, 47, 46, 47, 98, 47] = true ∧ pDir [47, 97, 47, 47, 46, 47, 98, 47] = true ∧ pParts [47, 97, 47, 47, 46, 47, 98, 47] = [[97], [98]] ∧ textL true true [[97], [98]] = [47, 97, 47, 98, 47] := by decide
set_option maxHeartbeats 3200000 in
theorem awake8_true (w : World) : Calls Tryd.prog 4 #[] w fun e w' => e = .returned (.bool true) ∧ Below w.heap.size w w' := by
  obtain ⟨f0, f1, f2, f3, f4⟩ := awake8_path
  have hp := pparse_is ⟨#[47, 97, 47, 47, 46, 47, 98, 47]⟩ w
  have el : (⟨#[47, 97, 47, 47, 46, 47, 98, 47]⟩ : ByteArray).data.toList = [47, 97, 47, 47, 46, 47, 98, 47] := rfl
  rw [el] at hp
  have HP := Lib.hid hp
  have F0 := Lib.hid f0
  have F1 := Lib.hid f1
  have F2 := Lib.hid f2
  have F3 := Lib.hid f3
  have F4 := Lib.hid f4
  clear f0 f1 f2 f3 f4 hp el
  go_enter Tryd.func4, Tryd.ntmps4
  go_wp2_with fail
  refine HP.out.mono ?_
  rintro e w1 hpp
  obtain ⟨a, cp, rfl, hr, h1, h2, hb⟩ := hpp.path
  rw [F0.out, F1.out, F2.out]
  rw [F3.out] at hr h1 ⊢
  have e2 : ([[97], [98]] : List Bs).length = 2 := rfl
  rw [e2] at hr h1 ⊢
  have HT : Hid (∀ W : World, Below w1.heap.size w1 W → Calls Tryd.prog 12 #[.agg #[.bool true, .bool true, .slice a 2 cp]] W fun e w' => e = .returned (.string ⟨#[47, 97, 47, 98, 47]⟩) ∧ Below W.heap.size W w') := fun W hW => by
    have := ptext_is true true a cp [[97], [98]] W (hr.below hW) h1 (by decide)
    rw [F4.out] at this
    exact this
  have HB : Hid (Below w.heap.size w (w1.alloc (.cells #[.bool true, .bool true, .slice a 2 cp] 25))) := below_next hb (below_box w1 _)
  clear hr h1 h2 hb e2
  go_wp2_with fail
  refine (HT.out _ (below_box w1 _)).mono ?_
  rintro e w2 ⟨rfl, c2⟩
  have HB2 := Lib.hid (below_next HB.out c2)
  clear c2
  go_wp2
  go_ret
  exact ⟨rfl, HB2.out⟩
end Go.Proofs.YtpnafikmbbnecaaDoor
