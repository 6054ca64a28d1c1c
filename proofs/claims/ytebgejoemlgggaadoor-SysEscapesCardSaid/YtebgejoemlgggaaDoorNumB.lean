/- Reading a number of bytes: num.Get by its walk. -/
import Derived.Test.YtebgejoemlgggaaDoorNumA
import Derived.Test.YtebgejoemlgggaaDoorMath
namespace Go.Proofs.YtebgejoemlgggaaDoor
open Go.RowKit
set_option linter.unusedVariables false
set_option maxRecDepth 100000

/-- The slice's elements are these bytes. -/
def Reads (w : World) (a : Option Addr) (len : Nat) (l : List Nat) : Prop :=
  l.length = len ∧ Bytes l ∧ (l = [] ∨ ∃ b off, a = some ⟨b, off, none⟩ ∧ b < w.heap.size ∧ ∀ i, i < len → w.cell? ⟨b, off + i, none⟩ = some (.int .u8 ((l.getD i 0 : Nat) : Int)))

/-- A part of a slice reads as that part of its bytes. -/
theorem Reads.part {w : World} {b off len : Nat} {l : List Nat} (h : Reads w (some ⟨b, off, none⟩) len l) (p q : Nat) (hpq : p + q ≤ len) : Reads w (some ⟨b, off + p, none⟩) q ((l.drop p).take q) := by
  obtain ⟨hlen, hb, hr⟩ := h
  refine ⟨by simp; omega, (hb.drop p).take q, ?_⟩
  by_cases hq : q = 0
  · left; simp [hq]
  rcases hr with rfl | ⟨b', off', he, hbl, hc⟩
  · simp at hlen; omega
  · cases he
    refine .inr ⟨b, off + p, rfl, hbl, fun i hi => ?_⟩
    rw [Nat.add_assoc, hc (p + i) (by omega)]
    simp [List.getD, hi]

end Go.Proofs.YtebgejoemlgggaaDoor
