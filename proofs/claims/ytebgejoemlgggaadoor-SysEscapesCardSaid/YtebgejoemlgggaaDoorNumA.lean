/- The bounds' tests of numbers in bytes (num.stands, the reference's Fits), by their walks. -/
import Derived.Test.YtebgejoemlgggaaDoorRows
import Derived.WalkKit
import Derived.WalkSpells
import Derived.WalkLawsBesides
import Derived.BigQuiet
import Derived.Deep.QuietTactic
import Derived.Lib.Hide
namespace Go.Proofs.YtebgejoemlgggaaDoor
open Go.RowKit
set_option linter.unusedVariables false
set_option maxRecDepth 100000

/-- is there room for so many bytes at the place? -/
def roomB (len : Nat) (at_ width : Int) : Bool := decide (1 ≤ width ∧ width ≤ 8 ∧ 0 ≤ at_ ∧ at_ + width ≤ len)
theorem roomB_yes {len : Nat} {p q : Int} (h : roomB len p q = true) : 1 ≤ q ∧ q ≤ 8 ∧ 0 ≤ p ∧ p + q ≤ len := by
  unfold roomB at h; simpa using h
theorem roomB_no {len : Nat} {p q : Int} (h : ¬ (1 ≤ q ∧ q ≤ 8 ∧ 0 ≤ p ∧ p + q ≤ len)) : roomB len p q = false := by
  unfold roomB; simpa using h
theorem roomB_mk {len : Nat} {p q : Int} (h : 1 ≤ q ∧ q ≤ 8 ∧ 0 ≤ p ∧ p + q ≤ len) : roomB len p q = true := by
  unfold roomB; simpa using h

def I64 (n : Int) : Prop := -9223372036854775808 ≤ n ∧ n ≤ 9223372036854775807

end Go.Proofs.YtebgejoemlgggaaDoor
