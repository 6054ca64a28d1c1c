/- The frame of a law: its arguments opened. -/
import Derived.Test.YtpmfkamagdifgaaIno5
namespace Go.Proofs.Ytpmfkamagdifgaa
open Go.ChangeShapes Go.WideShapes Go.ChangeAt Go.RowKit Go.Sort
set_option linter.unusedVariables false
set_option maxRecDepth 100000

theorem codecInodes_walk (z0 z1 z2 z3 z4 z5 z6 z7 z8 z9 z10 z11 z12 z13 z14 : Int) (hk : (0 ≤ z0 ∧ z0 < 4294967296) ∧ (0 ≤ z1 ∧ z1 < 4294967296) ∧ I64 z2 ∧ I64 z3 ∧ (0 ≤ z4 ∧ z4 < 4294967296) ∧ I64 z5 ∧ I64 z6 ∧ I64 z7 ∧ I64 z8 ∧ I64 z9 ∧ I64 z10 ∧ I64 z11 ∧ I64 z12 ∧ I64 z13 ∧ I64 z14) (a : Option Addr) (len cap : Nat) (bs : List Nat) (w : World) (hb : Reads w a len bs) (hbm : len ≤ maxLen) :
    Calls Try.prog 7 #[.agg #[.int .u32 z0, .int .u32 z1, .int .i64 z2, .int .i64 z3, .int .u32 z4, .int .i64 z5, .int .i64 z6, .int .i64 z7, .int .i64 z8, .int .i64 z9, .int .i64 z10, .int .i64 z11, .int .i64 z12, .int .i64 z13, .int .i64 z14], .slice a len cap] w fun e w' => e = .returned (.bool true) ∧ Below w.heap.size w w' := by
  rw [← cellsF_ino]
  rcases writeI_err [⟨.u32, 2, z0⟩, ⟨.u32, 4, z1⟩, ⟨.i64, 1, z2⟩, ⟨.i64, 4, z3⟩, ⟨.u32, 4, z4⟩, ⟨.i64, 4, z5⟩, ⟨.i64, 4, z6⟩, ⟨.i64, 4, z7⟩, ⟨.i64, 4, z8⟩, ⟨.i64, 4, z9⟩, ⟨.i64, 4, z10⟩, ⟨.i64, 4, z11⟩, ⟨.i64, 4, z12⟩, ⟨.i64, 4, z13⟩, ⟨.i64, 4, z14⟩] with ⟨h, _⟩ | ⟨h, _⟩
  · exact codecInodes_yes _ (ino_of_list z0 z1 z2 z3 z4 z5 z6 z7 z8 z9 z10 z11 z12 z13 z14 hk) a len cap bs w hb hbm h
  · exact codecInodes_no _ (ino_of_list z0 z1 z2 z3 z4 z5 z6 z7 z8 z9 z10 z11 z12 z13 z14 hk) a len cap bs w hb hbm h
set_option maxRecDepth 100000 in
theorem codecInodes_lifted (os : Os) (started : os.Started) (H : Type) (enc : TypeId × Value → H) :
    ReturnsInHanded {} Try.checked os 7 .any (Rows.codecInodesSpec.pre6 enc Try.prog Try.f7 Rows.codecInodesRow.domain false) (Rows.codecInodesSpec.post enc Try.prog Try.f7 false true false false) :=
  law_lifted (s := Rows.codecInodesSpec) started Try.func7 (by kernel_rfl) rfl (fun ds hd => by
        match ds, hd with
        | [_, _], _ => rfl) rfl
      (of_decide_eq_true (by kernel_rfl))
      (ChangeSpec.witness6 (enc := enc) (C := Try.checked) false ⟨#[], #[.agg #[.int .u32 0, .int .u32 0, .int .i64 0, .int .i64 0, .int .u32 0, .int .i64 0, .int .i64 0, .int .i64 0, .int .i64 0, .int .i64 0, .int .i64 0, .int .i64 0, .int .i64 0, .int .i64 0, .int .i64 0], .slice none 0 0], []⟩ 8 (by kernel_rfl) (by kernel_rfl) (by kernel_rfl) (by kernel_rfl))
      (fun W base args ds ps hval hA hsz => by
        rw [Try.params7] at hA hval hsz
        obtain ⟨v0, vs0, d0, ds0, p0, q0, hargs, rfl, rfl, h0, r0⟩ := trodAll_cons hA
        obtain ⟨v1, vs1, d1, ds1, p1, q1, rfl, rfl, rfl, h1, r1⟩ := trodAll_cons r0
        obtain ⟨rfl, rfl, rfl⟩ := trodAll_nil r1
        obtain rfl : args = #[v0, v1] := by cases args; simp_all
        simp only [DataW.weightsEach, List.all_append, Bool.and_eq_true] at hsz
        obtain ⟨z0, z1, _⟩ := hsz
        obtain ⟨x0, x1, x2, x3, x4, x5, x6, x7, x8, x9, x10, x11, x12, x13, x14, rfl, hk⟩ := open_ino (hval 0 80 v0 rfl rfl) h0
        obtain ⟨a, len, cap, bs, rfl, hr, hle, hc⟩ := open_bytes (hval 1 23 v1 rfl rfl) h1 z1
        exact codecInodes_walk x0 x1 x2 x3 x4 x5 x6 x7 x8 x9 x10 x11 x12 x13 x14 hk a len cap bs W hr (by unfold maxLen; omega))
end Go.Proofs.Ytpmfkamagdifgaa
