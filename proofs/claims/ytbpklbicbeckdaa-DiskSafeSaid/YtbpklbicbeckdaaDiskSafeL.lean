/- The frame of a law: its arguments opened. -/
import Derived.Test.YtbpklbicbeckdaaSafe2
import Derived.Test.YtbpklbicbeckdaaOpenAct3
import Derived.Test.YtbpklbicbeckdaaOpenB
import Derived.Test.YtbpklbicbeckdaaOpen
namespace Go.Proofs.Ytbpklbicbeckdaa
open Go.ChangeShapes Go.WideShapes Go.ChangeAt Go.RowKit Go.Sort
set_option linter.unusedVariables false
set_option maxRecDepth 100000

set_option maxRecDepth 100000 in
theorem diskSafe_lifted (os : Os) (started : os.Started) (H : Type) (enc : TypeId × Value → H) :
    ReturnsInHanded {} Try.checked os 3 .any (Rows.diskSafeSpec.pre6 enc Try.prog Try.f3 Rows.diskSafeRow.domain false) (Rows.diskSafeSpec.post enc Try.prog Try.f3 false true false false) :=
  law_lifted (s := Rows.diskSafeSpec) started Try.func3 (by kernel_rfl) rfl (fun ds hd => by
        match ds, hd with
        | [_, _, _], _ => rfl) rfl
      (of_decide_eq_true (by kernel_rfl))
      (ChangeSpec.witness6 (enc := enc) (C := Try.checked) false ⟨#[], #[.slice none 0 0, .int .i64 0, .slice none 0 0], []⟩ 8 (by kernel_rfl) (by kernel_rfl) (by kernel_rfl) (by kernel_rfl))
      (fun W base args ds ps hval hA hsz => by
        rw [Try.params3] at hA hval hsz
        obtain ⟨v0, vs0, d0, ds0, p0, q0, hargs, rfl, rfl, h0, r0⟩ := trodAll_cons hA
        obtain ⟨v1, vs1, d1, ds1, p1, q1, rfl, rfl, rfl, h1, r1⟩ := trodAll_cons r0
        obtain ⟨v2, vs2, d2, ds2, p2, q2, rfl, rfl, rfl, h2, r2⟩ := trodAll_cons r1
        obtain ⟨rfl, rfl, rfl⟩ := trodAll_nil r2
        obtain rfl : args = #[v0, v1, v2] := by cases args; simp_all
        simp only [DataW.weightsEach, List.all_append, Bool.and_eq_true] at hsz
        obtain ⟨z0, z1, z2, _⟩ := hsz
        obtain ⟨a, cap, us, rfl, hr, hc, hfit⟩ := open_act3 (hval 0 22 v0 rfl rfl) h0
        obtain ⟨n, rfl, rfl, rfl, wf⟩ := open_int Try.underlying3 (hval 1 3 v1 rfl rfl) h1
        obtain ⟨ka, kn, kc, ks, rfl, hk, hk1, hk2⟩ := open_truths (hval 2 23 v2 rfl rfl) h2
        exact diskSafe_walk a cap us n ka kn kc ks W hr hfit hc hk (by unfold maxLen at hk2; omega) (i64_of_wf wf))
end Go.Proofs.Ytbpklbicbeckdaa
