/- The frame of a law: its arguments opened. -/
import Derived.Test.YtebkkbmplndcpaaGgbpnapjg
import Derived.Test.YtebkkbmplndcpaaGnemhgpbl
import Derived.Test.YtebkkbmplndcpaaOpen
namespace Go.Proofs.Ytebkkbmplndcpaa
open Go.ChangeShapes Go.WideShapes Go.ChangeAt Go.RowKit Go.Sort
set_option linter.unusedVariables false
set_option maxRecDepth 100000

set_option maxRecDepth 100000 in
theorem drumlinChain_lifted (os : Os) (started : os.Started) (H : Type) (enc : TypeId × Value → H) :
    ReturnsInHanded {} Try.checked os 5 .any (Rows.drumlinChainSpec.pre6 enc Try.prog Try.f5 Rows.drumlinChainRow.domain false) (Rows.drumlinChainSpec.post enc Try.prog Try.f5 false true false false) :=
  law_lifted (s := Rows.drumlinChainSpec) started Try.func5 (by kernel_rfl) rfl (fun ds hd => by
        match ds, hd with
        | [_], _ => rfl) rfl
      (of_decide_eq_true (by kernel_rfl))
      (ChangeSpec.witness6 (enc := enc) (C := Try.checked) false ⟨#[], #[.slice none 0 0], []⟩ 8 (by kernel_rfl) (by kernel_rfl) (by kernel_rfl) (by kernel_rfl))
      (fun W base args ds ps hval hA hsz => by
        rw [Try.params5] at hA hval hsz
        obtain ⟨v0, vs0, d0, ds0, p0, q0, hargs, rfl, rfl, h0, r0⟩ := trodAll_cons hA
        obtain ⟨rfl, rfl, rfl⟩ := trodAll_nil r0
        obtain rfl : args = #[v0] := by cases args; simp_all
        simp only [DataW.weightsEach, List.all_append, Bool.and_eq_true] at hsz
        obtain ⟨z0, _⟩ := hsz
        obtain ⟨a, cap, us, rfl, hr, hc, hfit⟩ := open_turns (hval 0 47 v0 rfl rfl) h0
        exact drumlinChain_walk a cap us W hr hc)
end Go.Proofs.Ytebkkbmplndcpaa
