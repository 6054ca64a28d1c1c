/- Signs one by one, by the document. (Printed by wip/gen/esc3.py.) -/
import Derived.Test.YtebgejoemlgggaaDoorEsc1
namespace Go.Proofs.YtebgejoemlgggaaDoor
open Go.RowKit Go.Sort
set_option linter.unusedVariables false
set_option linter.unusedSimpArgs false
set_option maxRecDepth 100000

theorem cases_self (n : Nat) : (n = 45 ∨ n = 46 ∨ n = 47 ∨ n = 95) ∨ (48 ≤ n ∧ n ≤ 57) ∨ (65 ≤ n ∧ n ≤ 90) ∨ (97 ≤ n ∧ n ≤ 122) ∨ ((n ≠ 45 ∧ n ≠ 46 ∧ n ≠ 47 ∧ n ≠ 95) ∧ (n < 48 ∨ (58 ≤ n ∧ n < 65) ∨ (91 ≤ n ∧ n < 97) ∨ 122 < n)) := by omega
set_option maxHeartbeats 1600000 in
theorem rself_is (n : Nat) (hn : n < 256) (w : World) : Calls Tryd.prog 60 #[.int .u8 (n : Int)] w fun e w' => e = .returned (.bool (selfN n)) ∧ w' = w := by
  go_enter Tryd.func60, Tryd.ntmps60
  rcases cases_self n with (rfl | rfl | rfl | rfl) | h | h | h | ⟨⟨h1, h2, h3, h4⟩, h⟩
  · go_wp2
    go_ret
    exact ⟨rfl, rfl⟩
  · go_wp2
    go_ret
    exact ⟨rfl, rfl⟩
  · go_wp2
    go_ret
    exact ⟨rfl, rfl⟩
  · go_wp2
    go_ret
    exact ⟨rfl, rfl⟩
  · have HF : Hid (selfN n = true) := Lib.hid (by unfold selfN; simp; omega)
    have g0 : (48 : Int) ≤ (n : Int) := by omega
    have g1 : (n : Int) ≤ 57 := by omega
    clear h
    go_wp2
    go_ret
    exact ⟨by rw [HF.out]; rfl, rfl⟩
  · have HF : Hid (selfN n = true) := Lib.hid (by unfold selfN; simp; omega)
    have g0 : (48 : Int) ≤ (n : Int) := by omega
    have g1 : ¬ (n : Int) ≤ 57 := by omega
    have g2 : (65 : Int) ≤ (n : Int) := by omega
    have g3 : (n : Int) ≤ 90 := by omega
    clear h
    go_wp2
    go_ret
    exact ⟨by rw [HF.out]; rfl, rfl⟩
  · have HF : Hid (selfN n = true) := Lib.hid (by unfold selfN; simp; omega)
    have g0 : (48 : Int) ≤ (n : Int) := by omega
    have g1 : ¬ (n : Int) ≤ 57 := by omega
    have g2 : (65 : Int) ≤ (n : Int) := by omega
    have g3 : ¬ (n : Int) ≤ 90 := by omega
    have g4 : (97 : Int) ≤ (n : Int) := by omega
    have g5 : (n : Int) ≤ 122 := by omega
    clear h
    go_wp2
    go_ret
    exact ⟨by rw [HF.out]; rfl, rfl⟩
  · have HF : Hid (selfN n = false) := Lib.hid (by unfold selfN; simp; omega)
    have k1 : ((n : Int) == 45) = false := by simp; omega
    have k2 : ((n : Int) == 46) = false := by simp; omega
    have k3 : ((n : Int) == 47) = false := by simp; omega
    have k4 : ((n : Int) == 95) = false := by simp; omega
    clear h1 h2 h3 h4
    rcases h with h | h | h | h
    · skip
      have g0 : ¬ (48 : Int) ≤ (n : Int) := by omega
      have g1 : ¬ (65 : Int) ≤ (n : Int) := by omega
      have g2 : ¬ (97 : Int) ≤ (n : Int) := by omega
      clear h
      go_wp2
      go_ret
      exact ⟨by rw [HF.out]; rfl, rfl⟩
    · skip
      have g0 : (48 : Int) ≤ (n : Int) := by omega
      have g1 : ¬ (n : Int) ≤ 57 := by omega
      have g2 : ¬ (65 : Int) ≤ (n : Int) := by omega
      have g3 : ¬ (97 : Int) ≤ (n : Int) := by omega
      clear h
      go_wp2
      go_ret
      exact ⟨by rw [HF.out]; rfl, rfl⟩
    · skip
      have g0 : (48 : Int) ≤ (n : Int) := by omega
      have g1 : ¬ (n : Int) ≤ 57 := by omega
      have g2 : (65 : Int) ≤ (n : Int) := by omega
      have g3 : ¬ (n : Int) ≤ 90 := by omega
      have g4 : ¬ (97 : Int) ≤ (n : Int) := by omega
      clear h
      go_wp2
      go_ret
      exact ⟨by rw [HF.out]; rfl, rfl⟩
    · skip
      have g0 : (48 : Int) ≤ (n : Int) := by omega
      have g1 : ¬ (n : Int) ≤ 57 := by omega
      have g2 : (65 : Int) ≤ (n : Int) := by omega
      have g3 : ¬ (n : Int) ≤ 90 := by omega
      have g4 : (97 : Int) ≤ (n : Int) := by omega
      have g5 : ¬ (n : Int) ≤ 122 := by omega
      clear h
      go_wp2
      go_ret
      exact ⟨by rw [HF.out]; rfl, rfl⟩
/-- A digit's value by the document; 16: it is none. -/
def valR (n : Nat) : Nat := if valN n = 255 then 16 else valN n
theorem valR_eq : ∀ n, n < 256 → valR n = if 48 ≤ n ∧ n ≤ 57 then n - 48 else if 65 ≤ n ∧ n ≤ 70 then n - 55 else 16 := by decide
set_option maxHeartbeats 1600000 in
theorem rdigit_is (n : Nat) (hn : n < 16) (w : World) : Calls Tryd.prog 61 #[.int .u8 (n : Int)] w fun e w' => e = .returned (.int .u8 (digN n : Nat)) ∧ w' = w := by
  have HF : Hid (((digN n : Nat) : Int) = if n < 10 then 48 + (n : Int) else 65 + (n : Int) - 10) := Lib.hid (by unfold digN; split <;> omega)
  go_enter Tryd.func61, Tryd.ntmps61
  by_cases h : n < 10
  · have h1 : (n : Int) < 10 := by omega
    rw [if_pos h] at HF
    have h9 : (n : Int) ≤ 9 := by omega
    have h0 : (0 : Int) ≤ (n : Int) := by omega
    have hw : IntKind.u8.wrap (48 + (n : Int)) = 48 + (n : Int) := by unfold IntKind.wrap; simp [IntKind.bits, IntKind.signed]; omega
    clear h
    go_wp2
    go_ret
    exact ⟨by rw [HF.out]; rfl, rfl⟩
  · have h1 : ¬ (n : Int) < 10 := by omega
    rw [if_neg h] at HF
    have h9 : (n : Int) ≤ 15 := by omega
    have h0 : (10 : Int) ≤ (n : Int) := by omega
    clear h
    go_wp2
    go_ret
    exact ⟨by rw [HF.out]; rfl, rfl⟩
set_option maxHeartbeats 1600000 in
theorem rvalue_is (n : Nat) (hn : n < 256) (w : World) : Calls Tryd.prog 62 #[.int .u8 (n : Int)] w fun e w' => e = .returned (.int .u8 (valR n : Nat)) ∧ w' = w := by
  have hc : n < 48 ∨ (48 ≤ n ∧ n ≤ 57) ∨ (58 ≤ n ∧ n < 65) ∨ (65 ≤ n ∧ n ≤ 70) ∨ 70 < n := by omega
  go_enter Tryd.func62, Tryd.ntmps62
  rcases hc with h | h | h | h | h
  · have HF : Hid (((valR n : Nat) : Int) = 16) := Lib.hid (by rw [valR_eq n hn]; (repeat' split) <;> omega)
    have g0 : ¬ (48 : Int) ≤ (n : Int) := by omega
    have g1 : ¬ (65 : Int) ≤ (n : Int) := by omega
    clear h
    go_wp2
    go_ret
    exact ⟨by rw [HF.out]; rfl, rfl⟩
  · have HF : Hid (((valR n : Nat) : Int) = (n : Int) - 48) := Lib.hid (by rw [valR_eq n hn]; (repeat' split) <;> omega)
    have g0 : (48 : Int) ≤ (n : Int) := by omega
    have g1 : (n : Int) ≤ 57 := by omega
    clear h
    go_wp2
    go_ret
    exact ⟨by rw [HF.out]; rfl, rfl⟩
  · have HF : Hid (((valR n : Nat) : Int) = 16) := Lib.hid (by rw [valR_eq n hn]; (repeat' split) <;> omega)
    have g0 : (48 : Int) ≤ (n : Int) := by omega
    have g1 : ¬ (n : Int) ≤ 57 := by omega
    have g2 : ¬ (65 : Int) ≤ (n : Int) := by omega
    clear h
    go_wp2
    go_ret
    exact ⟨by rw [HF.out]; rfl, rfl⟩
  · have HF : Hid (((valR n : Nat) : Int) = (n : Int) - 65 + 10) := Lib.hid (by rw [valR_eq n hn]; (repeat' split) <;> omega)
    have g0 : (48 : Int) ≤ (n : Int) := by omega
    have g1 : ¬ (n : Int) ≤ 57 := by omega
    have g2 : (65 : Int) ≤ (n : Int) := by omega
    have g3 : (n : Int) ≤ 70 := by omega
    clear h
    go_wp2
    go_ret
    exact ⟨by rw [HF.out]; rfl, rfl⟩
  · have HF : Hid (((valR n : Nat) : Int) = 16) := Lib.hid (by rw [valR_eq n hn]; (repeat' split) <;> omega)
    have g0 : (48 : Int) ≤ (n : Int) := by omega
    have g1 : ¬ (n : Int) ≤ 57 := by omega
    have g2 : (65 : Int) ≤ (n : Int) := by omega
    have g3 : ¬ (n : Int) ≤ 70 := by omega
    clear h
    go_wp2
    go_ret
    exact ⟨by rw [HF.out]; rfl, rfl⟩
end Go.Proofs.YtebgejoemlgggaaDoor
