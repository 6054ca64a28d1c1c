/- The frame of a law: its arguments opened. -/
import Derived.Test.YtpmfkamagdifgaaHead7
namespace Go.Proofs.Ytpmfkamagdifgaa
open Go.ChangeShapes Go.WideShapes Go.ChangeAt Go.RowKit Go.Sort
set_option linter.unusedVariables false
set_option maxRecDepth 100000

theorem codecHeaders_walk (z0 z1 z2 z3 z4 z5 : Int) (hk : (0 ≤ z0 ∧ z0 < 18446744073709551616) ∧ (0 ≤ z1 ∧ z1 < 18446744073709551616) ∧ I64 z2 ∧ I64 z3 ∧ I64 z4 ∧ (0 ≤ z5 ∧ z5 < 4294967296)) (a : Option Addr) (len cap : Nat) (bs : List Nat) (w : World) (hb : Reads w a len bs) (hbm : len ≤ maxLen) :
    Calls Try.prog 6 #[.agg #[.int .u64 z0, .int .u64 z1, .int .i64 z2, .int .i64 z3, .int .i64 z4, .int .u32 z5], .slice a len cap] w fun e w' => e = .returned (.bool true) ∧ Below w.heap.size w w' := by
  rcases writeH_err [⟨.u64, 8, z0⟩, ⟨.u64, 8, z1⟩, ⟨.i64, 2, z2⟩, ⟨.i64, 2, z3⟩, ⟨.i64, 2, z4⟩, ⟨.u32, 4, z5⟩] with ⟨h, _⟩ | ⟨h, _⟩
  · exact codecHeaders_yes z0 z1 z2 z3 z4 z5 hk a len cap bs w hb hbm h
  · exact codecHeaders_no z0 z1 z2 z3 z4 z5 hk a len cap bs w hb hbm h
set_option maxRecDepth 100000 in
theorem codecHeaders_lifted (os : Os) (started : os.Started) (H : Type) (enc : TypeId × Value → H) :
    ReturnsInHanded {} Try.checked os 6 .any (Rows.codecHeadersSpec.pre6 enc Try.prog Try.f6 Rows.codecHeadersRow.domain false) (Rows.codecHeadersSpec.post enc Try.prog Try.f6 false true false false) :=
  law_lifted (s := Rows.codecHeadersSpec) started Try.func6 (by kernel_rfl) rfl (fun ds hd => by
        match ds, hd with
        | [_, _], _ => rfl) rfl
      (of_decide_eq_true (by kernel_rfl))
      (ChangeSpec.witness6 (enc := enc) (C := Try.checked) false ⟨#[], #[.agg #[.int .u64 0, .int .u64 0, .int .i64 0, .int .i64 0, .int .i64 0, .int .u32 0], .slice none 0 0], []⟩ 8 (by kernel_rfl) (by kernel_rfl) (by kernel_rfl) (by kernel_rfl))
      (fun W base args ds ps hval hA hsz => by
        rw [Try.params6] at hA hval hsz
        obtain ⟨v0, vs0, d0, ds0, p0, q0, hargs, rfl, rfl, h0, r0⟩ := trodAll_cons hA
        obtain ⟨v1, vs1, d1, ds1, p1, q1, rfl, rfl, rfl, h1, r1⟩ := trodAll_cons r0
        obtain ⟨rfl, rfl, rfl⟩ := trodAll_nil r1
        obtain rfl : args = #[v0, v1] := by cases args; simp_all
        simp only [DataW.weightsEach, List.all_append, Bool.and_eq_true] at hsz
        obtain ⟨z0, z1, _⟩ := hsz
        obtain ⟨x0, x1, x2, x3, x4, x5, rfl, hk⟩ := open_head (hval 0 69 v0 rfl rfl) h0
        obtain ⟨a, len, cap, bs, rfl, hr, hle, hc⟩ := open_bytes (hval 1 23 v1 rfl rfl) h1 z1
        exact codecHeaders_walk x0 x1 x2 x3 x4 x5 hk a len cap bs W hr (by unfold maxLen; omega))
end Go.Proofs.Ytpmfkamagdifgaa
