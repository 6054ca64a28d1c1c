/- Signs one by one: does one stand for itself; its digits' values; the program's and the document's. -/
import Derived.Test.YtebgejoemlgggaaDoorShelf
import Derived.Test.YtebgejoemlgggaaDoorEsc0
import Derived.Test.YtebgejoemlgggaaDoorHush
namespace Go.Proofs.YtebgejoemlgggaaDoor
open Go.RowKit Go.Sort
set_option linter.unusedVariables false
set_option linter.unusedSimpArgs false
set_option maxRecDepth 100000

theorem ix_plain : ∀ n, n < 256 → (Lib.indexByte [46, 47, 95, 45] n.toUInt8 ≥ 0 ↔ (n = 46 ∨ n = 47 ∨ n = 95 ∨ n = 45)) := by decide
theorem ix_val : ∀ n, n < 256 → (IntKind.u8.wrap (Lib.indexByte [48, 49, 50, 51, 52, 53, 54, 55, 56, 57, 65, 66, 67, 68, 69, 70] n.toUInt8)) = (valN n : Int) := by decide
theorem parts7 (n : Nat) : n < 48 ∨ (48 ≤ n ∧ n ≤ 57) ∨ (58 ≤ n ∧ n < 65) ∨ (65 ≤ n ∧ n ≤ 90) ∨ (91 ≤ n ∧ n < 97) ∨ (97 ≤ n ∧ n ≤ 122) ∨ 122 < n := by omega
/-- A sign against a bound, in both spellings. -/
theorem cmpN (n k : Nat) : (decide ((k : Int) ≤ (n : Int)) = decide (k ≤ n)) ∧ (decide ((n : Int) ≤ (k : Int)) = decide (n ≤ k)) := ⟨decide_eq_decide.2 (by omega), decide_eq_decide.2 (by omega)⟩
set_option maxHeartbeats 1600000 in
theorem pplain_is (n : Nat) (hn : n < 256) (w : World) : Calls Tryd.prog 58 #[.int .u8 (n : Int)] w fun e w' => e = .returned (.bool (selfN n)) ∧ w' = w := by
  have hix := ix_plain n hn
  have hc := Tryd.strings_IndexByte ⟨#[46, 47, 95, 45]⟩ (n : Int) w
  rw [Int.toNat_natCast] at hc
  have e0 : (⟨#[46, 47, 95, 45]⟩ : ByteArray).data.toList = [46, 47, 95, 45] := rfl
  rw [e0] at hc
  obtain ⟨z, hz⟩ : ∃ z, Lib.indexByte [46, 47, 95, 45] n.toUInt8 = z := ⟨_, rfl⟩
  rw [hz] at hc hix
  have HC := Lib.hid hc
  have HIX := Lib.hid hix
  clear hc hix e0 hz
  have fin : (¬ (48 ≤ n ∧ n ≤ 57)) → (¬ (65 ≤ n ∧ n ≤ 90)) → (¬ (97 ≤ n ∧ n ≤ 122)) → decide (z ≥ 0) = selfN n := fun h1 h2 h3 => by
    have h9 := HIX.out
    rw [Bool.eq_iff_iff, decide_eq_true_iff, h9]
    unfold selfN
    simp
    omega
  have FIN := Lib.hid fin
  clear fin
  go_enter Tryd.func58, Tryd.ntmps58
  rcases parts7 n with h | h | h | h | h | h | h
  · have g1 : ¬ (97 : Int) ≤ (n : Int) := by omega
    have g2 : ¬ (65 : Int) ≤ (n : Int) := by omega
    have g3 : ¬ (48 : Int) ≤ (n : Int) := by omega
    have HF := Lib.hid (FIN.out (by omega) (by omega) (by omega))
    clear h
    go_wp2_with fail
    refine HC.out.mono ?_
    rintro e w1 ⟨rfl, rfl⟩
    go_wp2
    go_ret
    exact ⟨by rw [← HF.out]; rfl, rfl⟩
  · have g1 : ¬ (97 : Int) ≤ (n : Int) := by omega
    have g2 : ¬ (65 : Int) ≤ (n : Int) := by omega
    have g3 : (48 : Int) ≤ (n : Int) := by omega
    have g4 : (n : Int) ≤ 57 := by omega
    have HF : Hid (selfN n = true) := Lib.hid (by unfold selfN; simp; omega)
    clear h
    go_wp2
    go_ret
    exact ⟨by rw [HF.out]; rfl, rfl⟩
  · have g1 : ¬ (97 : Int) ≤ (n : Int) := by omega
    have g2 : ¬ (65 : Int) ≤ (n : Int) := by omega
    have g3 : (48 : Int) ≤ (n : Int) := by omega
    have g4 : ¬ (n : Int) ≤ 57 := by omega
    have HF := Lib.hid (FIN.out (by omega) (by omega) (by omega))
    clear h
    go_wp2_with fail
    refine HC.out.mono ?_
    rintro e w1 ⟨rfl, rfl⟩
    go_wp2
    go_ret
    exact ⟨by rw [← HF.out]; rfl, rfl⟩
  · have g1 : ¬ (97 : Int) ≤ (n : Int) := by omega
    have g2 : (65 : Int) ≤ (n : Int) := by omega
    have g3 : (n : Int) ≤ 90 := by omega
    have HF : Hid (selfN n = true) := Lib.hid (by unfold selfN; simp; omega)
    clear h
    go_wp2
    go_ret
    exact ⟨by rw [HF.out]; rfl, rfl⟩
  · have g1 : ¬ (97 : Int) ≤ (n : Int) := by omega
    have g2 : (65 : Int) ≤ (n : Int) := by omega
    have g3 : ¬ (n : Int) ≤ 90 := by omega
    have g4 : (48 : Int) ≤ (n : Int) := by omega
    have g5 : ¬ (n : Int) ≤ 57 := by omega
    have HF := Lib.hid (FIN.out (by omega) (by omega) (by omega))
    clear h
    go_wp2_with fail
    refine HC.out.mono ?_
    rintro e w1 ⟨rfl, rfl⟩
    go_wp2
    go_ret
    exact ⟨by rw [← HF.out]; rfl, rfl⟩
  · have g1 : (97 : Int) ≤ (n : Int) := by omega
    have g2 : (n : Int) ≤ 122 := by omega
    have HF : Hid (selfN n = true) := Lib.hid (by unfold selfN; simp; omega)
    clear h
    go_wp2
    go_ret
    exact ⟨by rw [HF.out]; rfl, rfl⟩
  · have g1 : (97 : Int) ≤ (n : Int) := by omega
    have g2 : ¬ (n : Int) ≤ 122 := by omega
    have g3 : (65 : Int) ≤ (n : Int) := by omega
    have g4 : ¬ (n : Int) ≤ 90 := by omega
    have g5 : (48 : Int) ≤ (n : Int) := by omega
    have g6 : ¬ (n : Int) ≤ 57 := by omega
    have HF := Lib.hid (FIN.out (by omega) (by omega) (by omega))
    clear h
    go_wp2_with fail
    refine HC.out.mono ?_
    rintro e w1 ⟨rfl, rfl⟩
    go_wp2
    go_ret
    exact ⟨by rw [← HF.out]; rfl, rfl⟩
set_option maxHeartbeats 1600000 in
theorem pvalue_is (n : Nat) (hn : n < 256) (w : World) : Calls Tryd.prog 59 #[.int .u8 (n : Int)] w fun e w' => e = .returned (.int .u8 (valN n : Nat)) ∧ w' = w := by
  have hix := ix_val n hn
  have hc := Tryd.strings_IndexByte ⟨#[48, 49, 50, 51, 52, 53, 54, 55, 56, 57, 65, 66, 67, 68, 69, 70]⟩ (n : Int) w
  rw [Int.toNat_natCast] at hc
  have e0 : (⟨#[48, 49, 50, 51, 52, 53, 54, 55, 56, 57, 65, 66, 67, 68, 69, 70]⟩ : ByteArray).data.toList = [48, 49, 50, 51, 52, 53, 54, 55, 56, 57, 65, 66, 67, 68, 69, 70] := rfl
  rw [e0] at hc
  obtain ⟨z, hz⟩ : ∃ z, Lib.indexByte [48, 49, 50, 51, 52, 53, 54, 55, 56, 57, 65, 66, 67, 68, 69, 70] n.toUInt8 = z := ⟨_, rfl⟩
  rw [hz] at hc hix
  have HC := Lib.hid hc
  clear hc e0 hz
  go_enter Tryd.func59, Tryd.ntmps59
  go_wp2_with fail
  refine HC.out.mono ?_
  rintro e w1 ⟨rfl, rfl⟩
  go_wp2
  go_ret
  exact ⟨by rw [← hix]; rfl, rfl⟩
end Go.Proofs.YtebgejoemlgggaaDoor
