/- What is read of bytes as a Summary: its numbers, its entries. -/
import Derived.Test.YtplkglepbedhoaaGleaejeff
namespace Go.Proofs.Ytplkglepbedhoaa
open Go.RowKit Go.Sort
set_option linter.unusedVariables false
set_option linter.unusedSimpArgs false
set_option maxRecDepth 100000

theorem zeroEntry_cons : ∃ x l, zeroEntry = x :: l ∧ 1 ≤ x.width := ⟨_, _, rfl, by decide⟩
theorem zeroEntry_width : ∀ x ∈ zeroEntry, x.width ≤ 4 := by decide
theorem zeroEntry_widths : widths zeroEntry = 9 := rfl
theorem outEntry_is {b : List Nat} (hb : Bytes b) : IsFEntry (stO (.rd b) zeroEntry) := by
  have hlen : (stO (.rd b) zeroEntry).length = 4 := by rw [stO_length]; rfl
  obtain ⟨z0, g0, p0, q0⟩ := stO_rd zeroEntry b hb zeroEntry_width 0 _ rfl
  obtain ⟨z1, g1, p1, q1⟩ := stO_rd zeroEntry b hb zeroEntry_width 1 _ rfl
  obtain ⟨z2, g2, p2, q2⟩ := stO_rd zeroEntry b hb zeroEntry_width 2 _ rfl
  obtain ⟨z3, g3, p3, q3⟩ := stO_rd zeroEntry b hb zeroEntry_width 3 _ rfl
  match h : stO (.rd b) zeroEntry, hlen with
  | [a0, a1, a2, a3], _ =>
    rw [h] at g0 g1 g2 g3
    obtain rfl : a0 = ⟨.i64, 1, z0⟩ := Option.some.inj g0
    obtain rfl : a1 = ⟨.u32, 2, z1⟩ := Option.some.inj g1
    obtain rfl : a2 = ⟨.u32, 4, z2⟩ := Option.some.inj g2
    obtain rfl : a3 = ⟨.i64, 2, z3⟩ := Option.some.inj g3
    exact ⟨z0, z1, z2, z3, rfl, (by unfold I64; omega), ⟨p1, q1⟩, ⟨p2, q2⟩, (by unfold I64; omega)⟩

def rdSeq (b : List Nat) : Nat := (PS.rd b).num 8 0
def rdFirst (b : List Nat) : Nat := ((PS.rd b).next 8 0).num 8 0
def rdCommit (b : List Nat) : Bool := flagO (((PS.rd b).next 8 0).next 8 0) false
def rdNext (b : List Nat) : Int := (((((PS.rd b).next 8 0).next 8 0).next 1 (u64of (flagN false))).next 1 (u64of ((0 : Nat) : Int))).numI 2 0
def rdTime (b : List Nat) : Nat := ((((((PS.rd b).next 8 0).next 8 0).next 1 (u64of (flagN false))).next 1 (u64of ((0 : Nat) : Int))).next 2 (u64of 0)).num 4 0
def rdList (b : List Nat) : List (List FldD) := runD zeroEntry [] (sumS (.rd b) 0 0 false 0 0 0) (countS b)
theorem sumC_rd (b : List Nat) (v : Value) : sumC (.rd b) 0 0 false 0 0 0 v = sumV (rdSeq b) (rdFirst b) (rdCommit b) (rdNext b) (rdTime b) v := rfl
theorem rdList_length {b : List Nat} : (rdList b).length = countS b := runD_length _ _ _ _
theorem rdSum_is {b : List Nat} (hb : Bytes b) : rdSeq b < 18446744073709551616 ∧ rdFirst b < 18446744073709551616 ∧ (0 ≤ rdNext b ∧ rdNext b < 65536) ∧ rdTime b < 4294967296 ∧ ∀ x ∈ rdList b, IsFEntry x := by
  obtain ⟨b1, e1, _, _, k1⟩ := next_rd b 8 0
  obtain ⟨b2, e2, _, _, k2⟩ := next_rd b1 8 0
  obtain ⟨b3, e3, _, _, k3⟩ := next_rd b2 1 (u64of (flagN false))
  obtain ⟨b4, e4, _, _, k4⟩ := next_rd b3 1 (u64of ((0 : Nat) : Int))
  obtain ⟨b5, e5, _, _, k5⟩ := next_rd b4 2 (u64of 0)
  have h1 := k1 hb
  have h2 := k2 h1
  have h3 := k3 h2
  have h4 := k4 h3
  have h5 := k5 h4
  refine ⟨?_, ?_, ?_, ?_, ?_⟩
  · exact num_lt hb 8 0 (by decide)
  · unfold rdFirst
    rw [e1]
    exact num_lt h1 8 0 (by decide)
  · unfold rdNext
    rw [e1, e2, e3, e4]
    have := num_lt h4 2 (u64of 0) (by decide)
    refine ⟨Int.natCast_nonneg _, ?_⟩
    show ((PS.num (.rd b4) 2 (u64of 0) : Nat) : Int) < 65536
    have h : PS.num (.rd b4) 2 (u64of 0) < 65536 := this
    omega
  · unfold rdTime
    rw [e1, e2, e3, e4, e5]
    exact num_lt h5 4 0 (by decide)
  · intro x hx
    unfold rdList at hx
    rw [sumS_is _ _ _ _ (by decide) (by decide) (by decide)] at hx
    obtain ⟨b', e, _, k⟩ := stS_rd (sumF 0 0 false 0 0 0) b
    rw [e] at hx
    obtain ⟨b'', rfl, k'⟩ := runD_mem zeroEntry b' _ x hx
    exact outEntry_is (k' (k hb))
end Go.Proofs.Ytplkglepbedhoaa
