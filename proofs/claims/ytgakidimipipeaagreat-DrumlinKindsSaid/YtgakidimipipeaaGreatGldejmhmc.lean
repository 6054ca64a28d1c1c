/- Is it a sealed sector of this kind; and the fixed fact of layer 2's laws: by their walks. -/
import Derived.Test.YtgakidimipipeaaGreatGegjignoa
import Derived.Lib.SlBytesConst
namespace Go.Proofs.YtgakidimipipeaaGreat
open Go.RowKit
set_option linter.unusedVariables false
set_option maxRecDepth 100000

theorem sealL_kind (k : Nat) (b : List Nat) : kindL (sealL k b) = k := by simp [kindL, sealL, headL]
theorem sealL_three (k : Nat) (b : List Nat) : (sealL k b).getD 3 0 = b.length := by simp [sealL, headL]
theorem sealL_body (k : Nat) (b : List Nat) (h : b.length ≤ 120) : bodyL (sealL k b) = b := by
  unfold bodyL bodyOf
  rw [sealL_three, if_pos (by omega)]
  simp [sealL, headL]
theorem openB_sealL {k : Nat} {b : List Nat} (hk : k ≠ 0) (h : b.length ≤ 120) : openB (sealL k b) = true := by
  unfold openB
  rw [sealL_kind, sealL_body k b h]
  exact decide_eq_true ⟨hk, h, rfl⟩

def isB (s : List Nat) (k : Nat) : Bool := openB s && decide (kindL s = k)

set_option maxHeartbeats 800000 in
theorem is_any (s : List Nat) (k : Nat) (hs : s.length = 128) (hb : Bytes s) (w : World) :
    Calls Tryz.prog 8 #[.agg (cells s), .int .u8 k] w fun e w' => e = .returned (.bool (isB s k)) ∧ Below w.heap.size w w' := by
  have Hc := Lib.hid (box_cells hs (heap_alloc_new w (.cells (cells s) 31)))
  have b0 : Below w.heap.size w (w.alloc (.cells (cells s) 31)) := (Below.refl _ _).alloc (Nat.le_refl _) _
  go_enter Tryz.func8, Tryz.ntmps8
  go_wp2_with (refine wpList_load_sector rfl (.tmp 2) rfl w.heap.size 0 s rfl hs Hc.out ?_)
  refine (open_any s hs hb _).mono ?_
  rintro e w1 ⟨b1, h1⟩
  have bf := b0.trans (b1.mono (show w.heap.size ≤ _ by simp))
  rcases h1 with ⟨ho, a, cap, rfl, hrd⟩ | ⟨ho, rfl⟩
  · obtain ⟨kd, hkd⟩ : ∃ kd, kindL s = kd := ⟨_, rfl⟩
    have e : isB s k = decide (kd = k) := by unfold isB; rw [ho, hkd]; rfl
    rw [hkd]
    have HE := Lib.hid e
    clear b1 b0 ho hkd e hrd
    by_cases hE : kd = k
    · have ht : ((kd : Int) == k) = true := by simp [hE]
      have hf : isB s k = true := by rw [HE.out]; exact decide_eq_true hE
      clear hE HE
      go_wp2
      go_ret
      exact ⟨by first | rfl | (rw [hf]; rfl), bf⟩
    · have ht : ((kd : Int) == k) = false := by simp; omega
      have hf : isB s k = false := by rw [HE.out]; exact decide_eq_false hE
      clear hE HE
      go_wp2
      go_ret
      exact ⟨by first | rfl | (rw [hf]; rfl), bf⟩
  · have hf : isB s k = false := by unfold isB; rw [ho]; rfl
    clear b1 b0 ho
    go_wp2
    go_ret
    exact ⟨by first | rfl | (rw [hf]; rfl), bf⟩

end Go.Proofs.YtgakidimipipeaaGreat
