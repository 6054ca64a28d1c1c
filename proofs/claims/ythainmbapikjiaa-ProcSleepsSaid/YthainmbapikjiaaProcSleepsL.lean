/- The frame of a law: its arguments opened. -/
import Derived.Test.YthainmbapikjiaaSleep3
import Derived.Test.YthainmbapikjiaaOpenI
import Derived.Test.YthainmbapikjiaaOpen
namespace Go.Proofs.Ythainmbapikjiaa
open Go.ChangeShapes Go.WideShapes Go.ChangeAt Go.RowKit Go.Sort
set_option linter.unusedVariables false
set_option maxRecDepth 100000

set_option maxRecDepth 100000 in
theorem procSleeps_lifted (os : Os) (started : os.Started) (H : Type) (enc : TypeId × Value → H) :
    ReturnsInHanded {} Try.checked os 7 .any (Rows.procSleepsSpec.pre6 enc Try.prog Try.f7 Rows.procSleepsRow.domain false) (Rows.procSleepsSpec.post enc Try.prog Try.f7 false true false false) :=
  law_lifted (s := Rows.procSleepsSpec) started Try.func7 (by kernel_rfl) rfl (fun ds hd => by
        match ds, hd with
        | [_, _], _ => rfl) rfl
      (of_decide_eq_true (by kernel_rfl))
      (ChangeSpec.witness6 (enc := enc) (C := Try.checked) false ⟨#[], #[.slice none 0 0, .slice none 0 0], []⟩ 8 (by kernel_rfl) (by kernel_rfl) (by kernel_rfl) (by kernel_rfl))
      (fun W base args ds ps hval hA hsz => by
        rw [Try.params7] at hA hval hsz
        obtain ⟨v0, vs0, d0, ds0, p0, q0, hargs, rfl, rfl, h0, r0⟩ := trodAll_cons hA
        obtain ⟨v1, vs1, d1, ds1, p1, q1, rfl, rfl, rfl, h1, r1⟩ := trodAll_cons r0
        obtain ⟨rfl, rfl, rfl⟩ := trodAll_nil r1
        obtain rfl : args = #[v0, v1] := by cases args; simp_all
        simp only [DataW.weightsEach, List.all_append, Bool.and_eq_true] at hsz
        obtain ⟨z0, z1, _⟩ := hsz
        obtain ⟨a, len, cap, l, rfl, hr, hl, hc, hwz⟩ := open_nums (hval 0 72 v0 rfl rfl) h0 z0
        obtain ⟨a2, len2, cap2, l2, rfl, hr2, hl2, hc2, hwz2⟩ := open_nums (hval 1 72 v1 rfl rfl) h1 z1
        obtain rfl := hr.1
        obtain rfl := hr2.1
        exact procSleeps_walk a cap l a2 cap2 l2 W hr hl hr2 hl2)
end Go.Proofs.Ythainmbapikjiaa
