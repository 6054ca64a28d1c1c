/- Is it a sealed sector of this kind; and the fixed fact of layer 2's laws: by their walks. -/
import Derived.Test.YtebkkbmplndcpaaGfkkcckad
import Derived.Lib.SlBytesConst
namespace Go.Proofs.Ytebkkbmplndcpaa
open Go.RowKit
set_option linter.unusedVariables false
set_option maxRecDepth 100000

theorem sealL_kind (k : Nat) (b : List Nat) : kindL (sealL k b) = k := by simp [kindL, sealL, headL]
theorem sealL_three (k : Nat) (b : List Nat) : (sealL k b).getD 3 0 = b.length := by simp [sealL, headL]
theorem sealL_body (k : Nat) (b : List Nat) (h : b.length ≤ 120) : bodyL (sealL k b) = b := by
  unfold bodyL bodyOf
  rw [sealL_three, if_pos (by omega)]
  simp [sealL, headL]
theorem openB_sealL {k : Nat} {b : List Nat} (hk : k ≠ 0) (h : b.length ≤ 120) : openB (sealL k b) = true := by
  unfold openB
  rw [sealL_kind, sealL_body k b h]
  exact decide_eq_true ⟨hk, h, rfl⟩

def isB (s : List Nat) (k : Nat) : Bool := openB s && decide (kindL s = k)

end Go.Proofs.Ytebkkbmplndcpaa
