/- The frame of a law: its arguments opened. -/
import Derived.Test.YthainmbapikjiaaGiphphmdo
import Derived.Test.YthainmbapikjiaaGbanebloo
import Derived.Test.YthainmbapikjiaaGbpfbgbjo
import Derived.Test.YthainmbapikjiaaOpen
namespace Go.Proofs.Ythainmbapikjiaa
open Go.ChangeShapes Go.WideShapes Go.ChangeAt Go.RowKit Go.Sort
set_option linter.unusedVariables false
set_option maxRecDepth 100000

set_option maxRecDepth 100000 in
theorem diskTwins_lifted (os : Os) (started : os.Started) (H : Type) (enc : TypeId × Value → H) :
    ReturnsInHanded {} Try.checked os 3 .any (Rows.diskTwinsSpec.pre6 enc Try.prog Try.f3 Rows.diskTwinsRow.domain false) (Rows.diskTwinsSpec.post enc Try.prog Try.f3 false true false false) :=
  law_lifted (s := Rows.diskTwinsSpec) started Try.func3 (by kernel_rfl) rfl (fun ds hd => by
        match ds, hd with
        | [_, _, _], _ => rfl) rfl
      (of_decide_eq_true (by kernel_rfl))
      (ChangeSpec.witness6 (enc := enc) (C := Try.checked) false ⟨#[], #[.slice none 0 0, .slice none 0 0, .slice none 0 0], []⟩ 8 (by kernel_rfl) (by kernel_rfl) (by kernel_rfl) (by kernel_rfl))
      (fun W base args ds ps hval hA hsz => by
        rw [Try.params3] at hA hval hsz
        obtain ⟨v0, vs0, d0, ds0, p0, q0, hargs, rfl, rfl, h0, r0⟩ := trodAll_cons hA
        obtain ⟨v1, vs1, d1, ds1, p1, q1, rfl, rfl, rfl, h1, r1⟩ := trodAll_cons r0
        obtain ⟨v2, vs2, d2, ds2, p2, q2, rfl, rfl, rfl, h2, r2⟩ := trodAll_cons r1
        obtain ⟨rfl, rfl, rfl⟩ := trodAll_nil r2
        obtain rfl : args = #[v0, v1, v2] := by cases args; simp_all
        simp only [DataW.weightsEach, List.all_append, Bool.and_eq_true] at hsz
        obtain ⟨z0, z1, z2, _⟩ := hsz
        obtain ⟨a, cap, us, rfl, hr, hc, hfit⟩ := open_act3 (hval 0 22 v0 rfl rfl) h0
        obtain ⟨a1, cap1, us1, rfl, hr1, hc1, hfit1⟩ := open_act3 (hval 1 22 v1 rfl rfl) h1
        obtain ⟨a2, cap2, us2, rfl, hr2, hc2, hfit2⟩ := open_act3 (hval 2 22 v2 rfl rfl) h2
        exact diskTwins_walk a cap us a1 cap1 us1 a2 cap2 us2 W hr hfit hc hr1 hfit1 hc1 hr2 hfit2 hc2)
end Go.Proofs.Ythainmbapikjiaa
