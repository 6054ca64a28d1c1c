/- The bounds' tests of numbers in bytes (num.stands, the reference's Fits), by their walks. -/
import Derived.Test.YtgakidimipipeaaRows
import Derived.WalkKit
import Derived.WalkSpells
import Derived.WalkLawsBesides
import Derived.BigQuiet
import Derived.Deep.QuietTactic
import Derived.Lib.Hide
namespace Go.Proofs.Ytgakidimipipeaa
open Go.RowKit
set_option linter.unusedVariables false
set_option maxRecDepth 100000

/-- is there room for so many bytes at the place? -/
def roomB (len : Nat) (at_ width : Int) : Bool := decide (1 ≤ width ∧ width ≤ 8 ∧ 0 ≤ at_ ∧ at_ + width ≤ len)
theorem roomB_yes {len : Nat} {p q : Int} (h : roomB len p q = true) : 1 ≤ q ∧ q ≤ 8 ∧ 0 ≤ p ∧ p + q ≤ len := by
  unfold roomB at h; simpa using h
theorem roomB_no {len : Nat} {p q : Int} (h : ¬ (1 ≤ q ∧ q ≤ 8 ∧ 0 ≤ p ∧ p + q ≤ len)) : roomB len p q = false := by
  unfold roomB; simpa using h
theorem roomB_mk {len : Nat} {p q : Int} (h : 1 ≤ q ∧ q ≤ 8 ∧ 0 ≤ p ∧ p + q ≤ len) : roomB len p q = true := by
  unfold roomB; simpa using h

def I64 (n : Int) : Prop := -9223372036854775808 ≤ n ∧ n ≤ 9223372036854775807

theorem stands_any (a : Option Addr) (len cap : Nat) (p q : Int) (w : World) (hl : len ≤ maxLen) (hp : I64 p) (hq : I64 q) :
    Calls Try.prog 142 #[.slice a len cap, .int .i64 p, .int .i64 q] w fun e w' => e = .returned (.bool (roomB len p q)) ∧ w = w' := by
  unfold maxLen at hl
  obtain ⟨p1, p2⟩ := hp
  obtain ⟨q1, q2⟩ := hq
  by_cases h1 : 1 ≤ q
  · by_cases h2 : q ≤ 8
    · by_cases h3 : 0 ≤ p
      · by_cases h4 : p ≤ (len : Int) - q
        · have hr := roomB_mk (len := len) (p := p) (q := q) ⟨h1, h2, h3, by omega⟩
          go_enter Try.func142, Try.ntmps142
          go_wp2
          go_ret
          exact ⟨by first | rfl | (rw [hr]; rfl), rfl⟩
        · have hr := roomB_no (len := len) (p := p) (q := q) (by omega)
          go_enter Try.func142, Try.ntmps142
          go_wp2
          go_ret
          exact ⟨by first | rfl | (rw [hr]; rfl), rfl⟩
      · have hr := roomB_no (len := len) (p := p) (q := q) (by omega)
        go_enter Try.func142, Try.ntmps142
        go_wp2
        go_ret
        exact ⟨by first | rfl | (rw [hr]; rfl), rfl⟩
    · have hr := roomB_no (len := len) (p := p) (q := q) (by omega)
      go_enter Try.func142, Try.ntmps142
      go_wp2
      go_ret
      exact ⟨by first | rfl | (rw [hr]; rfl), rfl⟩
  · have hr := roomB_no (len := len) (p := p) (q := q) (by omega)
    go_enter Try.func142, Try.ntmps142
    go_wp2
    go_ret
    exact ⟨by first | rfl | (rw [hr]; rfl), rfl⟩

end Go.Proofs.Ytgakidimipipeaa
