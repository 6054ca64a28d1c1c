/- The frame of a law: its arguments opened. -/
import Derived.Test.YtpnafikmbbnecaaDir22
import Derived.Test.YtpnafikmbbnecaaDir17
import Derived.Test.YtpnafikmbbnecaaOpen
namespace Go.Proofs.Ytpnafikmbbnecaa
open Go.ChangeShapes Go.WideShapes Go.ChangeAt Go.RowKit Go.Sort
open Go.ChangeMaps (open_string)
set_option linter.unusedVariables false
set_option maxRecDepth 100000

set_option maxRecDepth 100000 in
theorem direntFinds_lifted (os : Os) (started : os.Started) (H : Type) (enc : TypeId × Value → H) :
    ReturnsInHanded {} Try.checked os 4 .any (Rows.direntFindsSpec.pre6 enc Try.prog Try.f4 Rows.direntFindsRow.domain false) (Rows.direntFindsSpec.post enc Try.prog Try.f4 false true false false) :=
  law_lifted (s := Rows.direntFindsSpec) started Try.func4 (by kernel_rfl) rfl (fun ds hd => by
        match ds, hd with
        | [_, _], _ => rfl) rfl
      (of_decide_eq_true (by kernel_rfl))
      (ChangeSpec.witness6 (enc := enc) (C := Try.checked) false ⟨#[], #[.agg #[.int .i64 0, .string ByteArray.empty, .int .i64 0, .string ByteArray.empty, .int .i64 0, .string ByteArray.empty, .int .i64 0, .string ByteArray.empty], .string ByteArray.empty], []⟩ 8 (by kernel_rfl) (by kernel_rfl) (by kernel_rfl) (by kernel_rfl))
      (fun W base args ds ps hval hA hsz => by
        rw [Try.params4] at hA hval hsz
        obtain ⟨v0, vs0, d0, ds0, p0, q0, hargs, rfl, rfl, h0, r0⟩ := trodAll_cons hA
        obtain ⟨v1, vs1, d1, ds1, p1, q1, rfl, rfl, rfl, h1, r1⟩ := trodAll_cons r0
        obtain ⟨rfl, rfl, rfl⟩ := trodAll_nil r1
        obtain rfl : args = #[v0, v1] := by cases args; simp_all
        simp only [DataW.weightsEach, List.all_append, Bool.and_eq_true] at hsz
        obtain ⟨z0, z1, _⟩ := hsz
        obtain ⟨E, rfl, hE, hz⟩ := open_ents (hval 0 33 v0 rfl rfl) h0
        obtain ⟨s, rfl, rfl, rfl, ws⟩ := open_string Try.underlying9 (hval 1 9 v1 rfl rfl) h1
        exact direntFinds_walk hE s W)
end Go.Proofs.Ytpnafikmbbnecaa
