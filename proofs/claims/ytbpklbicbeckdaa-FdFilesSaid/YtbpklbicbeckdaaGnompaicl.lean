/- The document's disk, as a value: its small calls, told by their walks. -/
import Derived.Test.YtbpklbicbeckdaaGgekmgocm
namespace Go.Proofs.Ytbpklbicbeckdaa
open Go.RowKit Go.Sort
set_option linter.unusedVariables false
set_option maxRecDepth 100000

/-- The document's disk by value. -/
def refV (sa : Option Addr) (sn sc : Nat) (qa : Option Addr) (qn qc : Nat) (dead : Bool) (arm deeds : Int) : Value := .agg #[.slice sa sn sc, .slice qa qn qc, .bool dead, .int .i64 arm, .int .i64 deeds]
def mayR (dead : Bool) (n : Nat) (at_ : Int) : Int := if at_ < 0 ∨ (n : Int) ≤ at_ then 1 else if dead then 20 else 0

theorem rmay_is (sa : Option Addr) (sn sc : Nat) (qa : Option Addr) (qn qc : Nat) (dead : Bool) (arm deeds at_ : Int) (w : World) :
    Calls Try.prog 81 #[refV sa sn sc qa qn qc dead arm deeds, .int .i64 at_] w fun e w' => e = .returned (.int .i64 (mayR dead sn at_)) ∧ Below w.heap.size w w' := by
  unfold refV
  have hb := below_box w (.cells #[.slice sa sn sc, .slice qa qn qc, .bool dead, .int .i64 arm, .int .i64 deeds] 29)
  by_cases h1 : at_ < 0
  · have HE : Hid (mayR dead sn at_ = 1) := if_pos (.inl h1)
    go_enter Try.func81, Try.ntmps81
    go_wp2
    go_ret
    exact ⟨ret_int HE.out.symm, hb⟩
  by_cases h2 : (sn : Int) ≤ at_
  · have HE : Hid (mayR dead sn at_ = 1) := if_pos (.inr h2)
    go_enter Try.func81, Try.ntmps81
    go_wp2
    go_ret
    exact ⟨ret_int HE.out.symm, hb⟩
  have hno : ¬ (at_ < 0 ∨ (sn : Int) ≤ at_) := by omega
  have e2 : mayR dead sn at_ = if dead then 20 else 0 := if_neg hno
  cases dead with
  | true =>
    have HE : Hid (mayR true sn at_ = 20) := e2
    clear e2 hno
    go_enter Try.func81, Try.ntmps81
    go_wp2
    go_ret
    exact ⟨ret_int HE.out.symm, hb⟩
  | false =>
    have HE : Hid (mayR false sn at_ = 0) := e2
    clear e2 hno
    go_enter Try.func81, Try.ntmps81
    go_wp2
    go_ret
    exact ⟨ret_int HE.out.symm, hb⟩
end Go.Proofs.Ytbpklbicbeckdaa
