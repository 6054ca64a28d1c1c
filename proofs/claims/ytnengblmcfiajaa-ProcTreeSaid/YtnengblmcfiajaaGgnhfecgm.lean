/- The frame of a law: its arguments opened. -/
import Derived.Test.YtnengblmcfiajaaGpdhcdcfg
import Derived.Test.YtnengblmcfiajaaOpen
namespace Go.Proofs.Ytnengblmcfiajaa
open Go.ChangeShapes Go.WideShapes Go.ChangeAt Go.RowKit Go.Sort
set_option linter.unusedVariables false
set_option maxRecDepth 100000

set_option maxRecDepth 100000 in
theorem procTree_lifted (os : Os) (started : os.Started) (H : Type) (enc : TypeId × Value → H) :
    ReturnsInHanded {} Try.checked os 3 .any (Rows.procTreeSpec.pre6 enc Try.prog Try.f3 Rows.procTreeRow.domain false) (Rows.procTreeSpec.post enc Try.prog Try.f3 false true false false) :=
  law_lifted (s := Rows.procTreeSpec) started Try.func3 (by kernel_rfl) rfl (fun ds hd => by
        match ds, hd with
        | [_, _], _ => rfl) rfl
      (of_decide_eq_true (by kernel_rfl))
      (ChangeSpec.witness6 (enc := enc) (C := Try.checked) false ⟨#[], #[.int .i64 0, .slice none 0 0], []⟩ 8 (by kernel_rfl) (by kernel_rfl) (by kernel_rfl) (by kernel_rfl))
      (fun W base args ds ps hval hA hsz => by
        rw [Try.params3] at hA hval hsz
        obtain ⟨v0, vs0, d0, ds0, p0, q0, hargs, rfl, rfl, h0, r0⟩ := trodAll_cons hA
        obtain ⟨v1, vs1, d1, ds1, p1, q1, rfl, rfl, rfl, h1, r1⟩ := trodAll_cons r0
        obtain ⟨rfl, rfl, rfl⟩ := trodAll_nil r1
        obtain rfl : args = #[v0, v1] := by cases args; simp_all
        simp only [DataW.weightsEach, List.all_append, Bool.and_eq_true] at hsz
        obtain ⟨z0, z1, _⟩ := hsz
        obtain ⟨n, rfl, rfl, rfl, wf⟩ := open_int Try.underlying3 (hval 0 3 v0 rfl rfl) h0
        obtain ⟨a, cap, us, rfl, hr, hc, hfit⟩ := open_act22 (hval 1 22 v1 rfl rfl) h1
        exact procTree_walk n a cap us W hr hc)
end Go.Proofs.Ytnengblmcfiajaa
