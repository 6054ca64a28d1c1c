/- The frame of a law: its arguments opened. -/
import Derived.Test.YtgakidimipipeaaGcifnmboc
import Derived.Test.YtgakidimipipeaaOpenI
namespace Go.Proofs.Ytgakidimipipeaa
open Go.ChangeShapes Go.WideShapes Go.ChangeAt Go.RowKit Go.Sort
set_option linter.unusedVariables false
set_option maxRecDepth 100000

set_option maxRecDepth 100000 in
theorem imapLoads_lifted (os : Os) (started : os.Started) (H : Type) (enc : TypeId × Value → H) :
    ReturnsInHanded {} Try.checked os 3 .any (Rows.imapLoadsSpec.pre6 enc Try.prog Try.f3 Rows.imapLoadsRow.domain false) (Rows.imapLoadsSpec.post enc Try.prog Try.f3 false true false false) :=
  law_lifted (s := Rows.imapLoadsSpec) started Try.func3 (by kernel_rfl) rfl (fun ds hd => by
        match ds, hd with
        | [_, _], _ => rfl) rfl
      (of_decide_eq_true (by kernel_rfl))
      (ChangeSpec.witness6 (enc := enc) (C := Try.checked) false ⟨#[], #[.slice none 0 0, .int .i64 0], []⟩ 8 (by kernel_rfl) (by kernel_rfl) (by kernel_rfl) (by kernel_rfl))
      (fun W base args ds ps hval hA hsz => by
        rw [Try.params3] at hA hval hsz
        obtain ⟨v0, vs0, d0, ds0, p0, q0, hargs, rfl, rfl, h0, r0⟩ := trodAll_cons hA
        obtain ⟨v1, vs1, d1, ds1, p1, q1, rfl, rfl, rfl, h1, r1⟩ := trodAll_cons r0
        obtain ⟨rfl, rfl, rfl⟩ := trodAll_nil r1
        obtain rfl : args = #[v0, v1] := by cases args; simp_all
        simp only [DataW.weightsEach, List.all_append, Bool.and_eq_true] at hsz
        obtain ⟨z0, z1, _⟩ := hsz
        obtain ⟨a, cap, L, rfl, hr, hc, hL⟩ := openSlots (hval 0 22 v0 rfl rfl) h0
        obtain ⟨n, rfl, rfl, rfl, wf⟩ := open_int Try.underlying3 (hval 1 3 v1 rfl rfl) h1
        obtain ⟨sl, rfl, hfit⟩ := slots_of L hL
        rw [List.length_map] at hc ⊢
        exact imapLoads_walk sl hfit a cap n W (by rw [← slots_rowsV]; exact hr) hc)
end Go.Proofs.Ytgakidimipipeaa
