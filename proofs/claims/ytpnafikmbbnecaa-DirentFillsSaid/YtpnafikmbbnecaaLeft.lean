/- How many bytes a port has left to be read. -/
import Derived.Test.YtpnafikmbbnecaaPort
namespace Go.Proofs.Ytpnafikmbbnecaa
open Go.RowKit Go.Sort
set_option linter.unusedVariables false
set_option linter.unusedSimpArgs false
set_option maxRecDepth 100000

def leftS (S : PS) : Nat := match S with | .wr _ _ => 0 | .rd b => b.length
def leftF (S : PS) : Nat := match S with | .wr _ _ => 196 | .rd _ => 194
def portA : Value → Value
  | .iface _ v => v
  | v => v
theorem left_is {w : World} {pv : Value} {S : PS} (h : IsPort w pv S) : Calls Try.prog (leftF S) #[portA pv] w fun e w' => e = .returned (.int .i64 (leftS S : Nat)) ∧ w = w' := by
  cases S with
  | wr l f =>
    obtain ⟨g, v, rfl, hw⟩ := h
    show Calls Try.prog 196 #[.pointer (some ⟨g, 0, none⟩)] w _
    clear hw
    go_enter Try.func196, Try.ntmps196
    go_wp2
    go_ret
    exact ⟨rfl, rfl⟩
  | rd b =>
    obtain ⟨g, a, cap, rfl, hw⟩ := h
    have c0 := cell_of_row hw.1 0
    show Calls Try.prog 194 #[.pointer (some ⟨g, 0, none⟩)] w _
    show Calls Try.prog 194 #[.pointer (some ⟨g, 0, none⟩)] w fun e w' => e = .returned (.int .i64 (b.length : Nat)) ∧ w = w'
    obtain ⟨n, hn⟩ : ∃ n, b.length = n := ⟨_, rfl⟩
    rw [hn] at c0 ⊢
    clear hw hn
    go_enter Try.func194, Try.ntmps194
    go_wp2
    go_ret
    exact ⟨rfl, rfl⟩
theorem naL_wr (n g : Nat) (w : World) (hn : 0 < n) : (nilAhead n 188 (.pointer (some ⟨g, 0, none⟩)) "Left").run Try.prog w = .ok (some false) w := by
  cases n with
  | zero => omega
  | succ n => kernel_rfl
theorem naL_rd (n g : Nat) (w : World) (hn : 0 < n) : (nilAhead n 178 (.pointer (some ⟨g, 0, none⟩)) "Left").run Try.prog w = .ok (some false) w := by
  cases n with
  | zero => omega
  | succ n => kernel_rfl
theorem mtL_wr (n g : Nat) (w : World) (hn : 0 < n) : (method n 188 (.pointer (some ⟨g, 0, none⟩)) "Left").run Try.prog w = .ok (196, .pointer (some ⟨g, 0, none⟩)) w := by
  cases n with
  | zero => omega
  | succ n => kernel_rfl
theorem mtL_rd (n g : Nat) (w : World) (hn : 0 < n) : (method n 178 (.pointer (some ⟨g, 0, none⟩)) "Left").run Try.prog w = .ok (194, .pointer (some ⟨g, 0, none⟩)) w := by
  cases n with
  | zero => omega
  | succ n => kernel_rfl
end Go.Proofs.Ytpnafikmbbnecaa
