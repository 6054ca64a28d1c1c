/- The frame of a law: its arguments opened. -/
import Derived.Test.YtgakidimipipeaaGreatGmdoembof
namespace Go.Proofs.YtgakidimipipeaaGreat
open Go.ChangeShapes Go.WideShapes Go.ChangeAt Go.RowKit Go.Sort
open Go.ChangeMaps (open_string)
set_option linter.unusedVariables false
set_option maxRecDepth 100000

set_option maxRecDepth 100000 in
theorem drumlinKinds_lifted (os : Os) (started : os.Started) (H : Type) (enc : TypeId × Value → H) :
    ReturnsInHanded {} Tryz.checked os 3 .any (Rows.drumlinKindsSpec.pre6 enc Tryz.prog Tryz.f3 Rows.drumlinKindsRow.domain false) (Rows.drumlinKindsSpec.post enc Tryz.prog Tryz.f3 false true false false) :=
  law_lifted (s := Rows.drumlinKindsSpec) started Tryz.func3 (by kernel_rfl) rfl (fun ds hd => by
        match ds, hd with
        | [_, _, _], _ => rfl) rfl
      (of_decide_eq_true (by kernel_rfl))
      (ChangeSpec.witness6 (enc := enc) (C := Tryz.checked) false ⟨#[], #[.agg #[.int .u32 0, .int .u32 0, .int .i64 0, .int .i64 0, .int .u32 0, .int .i64 0, .int .i64 0, .int .i64 0, .int .i64 0, .int .i64 0, .int .i64 0, .int .i64 0, .int .i64 0, .int .i64 0, .int .i64 0], .agg #[.int .u64 0, .int .u64 0, .bool false, .int .i64 0, .int .u32 0, .slice none 0 0], .string ByteArray.empty], []⟩ 8 (by kernel_rfl) (by kernel_rfl) (by kernel_rfl) (by kernel_rfl))
      (fun W base args ds ps hval hA hsz => by
        rw [Tryz.params3] at hA hval hsz
        obtain ⟨v0, vs0, d0, ds0, p0, q0, hargs, rfl, rfl, h0, r0⟩ := trodAll_cons hA
        obtain ⟨v1, vs1, d1, ds1, p1, q1, rfl, rfl, rfl, h1, r1⟩ := trodAll_cons r0
        obtain ⟨v2, vs2, d2, ds2, p2, q2, rfl, rfl, rfl, h2, r2⟩ := trodAll_cons r1
        obtain ⟨rfl, rfl, rfl⟩ := trodAll_nil r2
        obtain rfl : args = #[v0, v1, v2] := by cases args; simp_all
        simp only [DataW.weightsEach, List.all_append, Bool.and_eq_true] at hsz
        obtain ⟨z0, z1, z2, _⟩ := hsz
        obtain ⟨x0, x1, x2, x3, x4, x5, x6, x7, x8, x9, x10, x11, x12, x13, x14, rfl, hk⟩ := open_ino (hval 0 25 v0 rfl rfl) h0
        obtain ⟨y0, y1, y2, y3, y4, L, a, cap, rfl, hok, hr, hc⟩ := open_sum (hval 1 29 v1 rfl rfl) h1
        obtain ⟨s, rfl, rfl, rfl, ws⟩ := open_string Tryz.underlying9 (hval 2 9 v2 rfl rfl) h2
        have hw := drumlinKinds_walk _ (ino_of_list x0 x1 x2 x3 x4 x5 x6 x7 x8 x9 x10 x11 x12 x13 x14 hk) L hok a cap hc s ws W hr
        rw [cellsF_ino] at hw
        exact hw)
end Go.Proofs.YtgakidimipipeaaGreat
