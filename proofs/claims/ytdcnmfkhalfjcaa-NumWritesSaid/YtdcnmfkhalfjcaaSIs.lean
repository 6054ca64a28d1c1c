/- Is it a sealed sector of this kind; and the fixed fact of layer 2's laws: by their walks. -/
import Derived.Test.YtdcnmfkhalfjcaaSOpen
import Derived.Lib.SlBytesConst
namespace Go.Proofs.Ytdcnmfkhalfjcaa
open Go.RowKit
set_option linter.unusedVariables false

theorem sealL_kind (k : Nat) (b : List Nat) : kindL (sealL k b) = k := by simp [kindL, sealL, headL]
theorem sealL_three (k : Nat) (b : List Nat) : (sealL k b).getD 3 0 = b.length := by simp [sealL, headL]
theorem sealL_body (k : Nat) (b : List Nat) (h : b.length ≤ 120) : bodyL (sealL k b) = b := by
  unfold bodyL bodyOf
  rw [sealL_three, if_pos (by omega)]
  simp [sealL, headL]
theorem openB_sealL {k : Nat} {b : List Nat} (hk : k ≠ 0) (h : b.length ≤ 120) : openB (sealL k b) = true := by
  unfold openB
  rw [sealL_kind, sealL_body k b h]
  exact decide_eq_true ⟨hk, h, rfl⟩

def isB (s : List Nat) (k : Nat) : Bool := openB s && decide (kindL s = k)

set_option maxHeartbeats 800000 in
theorem is_any (s : List Nat) (k : Nat) (hs : s.length = 128) (hb : Bytes s) (w : World) :
    Calls Try.prog 36 #[.agg (cells s), .int .u8 k] w fun e w' => e = .returned (.bool (isB s k)) ∧ Below w.heap.size w w' := by
  have Hc := Lib.hid (box_cells hs (heap_alloc_new w (.cells (cells s) 41)))
  have b0 : Below w.heap.size w (w.alloc (.cells (cells s) 41)) := (Below.refl _ _).alloc (Nat.le_refl _) _
  go_enter Try.func36, Try.ntmps36
  go_wp2_with (refine wpList_load_sector rfl (.tmp 2) rfl w.heap.size 0 s rfl hs Hc.out ?_)
  refine (open_any s hs hb _).mono ?_
  rintro e w1 ⟨b1, h1⟩
  have bf := b0.trans (b1.mono (show w.heap.size ≤ _ by simp))
  rcases h1 with ⟨ho, a, cap, rfl, hrd⟩ | ⟨ho, rfl⟩
  · obtain ⟨kd, hkd⟩ : ∃ kd, kindL s = kd := ⟨_, rfl⟩
    have e : isB s k = decide (kd = k) := by unfold isB; rw [ho, hkd]; rfl
    rw [hkd]
    have HE := Lib.hid e
    clear b1 b0 ho hkd e hrd
    by_cases hE : kd = k
    · have ht : ((kd : Int) == k) = true := by simp [hE]
      have hf : isB s k = true := by rw [HE.out]; exact decide_eq_true hE
      clear hE HE
      go_wp2
      go_ret
      exact ⟨by first | rfl | (rw [hf]; rfl), bf⟩
    · have ht : ((kd : Int) == k) = false := by simp; omega
      have hf : isB s k = false := by rw [HE.out]; exact decide_eq_false hE
      clear hE HE
      go_wp2
      go_ret
      exact ⟨by first | rfl | (rw [hf]; rfl), bf⟩
  · have hf : isB s k = false := by unfold isB; rw [ho]; rfl
    clear b1 b0 ho
    go_wp2
    go_ret
    exact ⟨by first | rfl | (rw [hf]; rfl), bf⟩

theorem crc_digits : crc [49, 50, 51, 52, 53, 54, 55, 56, 57] = 3421780262 := by decide +kernel

theorem reads_two (w : World) : Reads (w.alloc (.cells #[.int .u8 104, .int .u8 105] 5 (2, 3))) (some ⟨w.heap.size, 0, none⟩) 2 [104, 105] := by
  refine Reads.of_row (heap_alloc_new w _) (by intro x hx; simp at hx; omega) rfl (fun i hi => ?_)
  have : i = 0 ∨ i = 1 := by omega
  rcases this with rfl | rfl <;> rfl
theorem reads_nine (w : World) : Reads (w.alloc (.cells #[.int .u8 49, .int .u8 50, .int .u8 51, .int .u8 52, .int .u8 53, .int .u8 54, .int .u8 55, .int .u8 56, .int .u8 57] 5 (9, 10))) (some ⟨w.heap.size, 0, none⟩) 9 [49, 50, 51, 52, 53, 54, 55, 56, 57] := by
  refine Reads.of_row (heap_alloc_new w _) (by intro x hx; simp at hx; omega) rfl (fun i hi => ?_)
  have : i = 0 ∨ i = 1 ∨ i = 2 ∨ i = 3 ∨ i = 4 ∨ i = 5 ∨ i = 6 ∨ i = 7 ∨ i = 8 := by omega
  rcases this with rfl | rfl | rfl | rfl | rfl | rfl | rfl | rfl | rfl <;> rfl

set_option maxHeartbeats 1600000 in
theorem awake2_true (w : World) : Calls Try.prog 30 #[] w fun e w' => e = .returned (.bool true) ∧ Below w.heap.size w w' := by
  have hz := zero_sector
  have kc := fun (w : World) (C : Array Value) (n c : Nat) => Lib.run_convert_bytes_const (P := Try.prog) w 22 5 C n c Try.underlying22 Try.underlying5
  have hl3 : (sealL 3 [104, 105]).length = 128 := sealL_length (by decide)
  have hb3 : Bytes (sealL 3 [104, 105]) := sealL_bytes (by decide) (by intro x hx; simp at hx; omega) (by decide)
  have h0 : (sealL 3 [104, 105]).getD 0 0 = 215 := rfl
  have h3 : isB (sealL 3 [104, 105]) 3 = true := by unfold isB; rw [openB_sealL (by decide) (by decide), sealL_kind]; rfl
  have h4 : isB (sealL 3 [104, 105]) 4 = false := by unfold isB; rw [sealL_kind]; simp
  obtain ⟨s, hS⟩ : ∃ s, sealL 3 [104, 105] = s := ⟨_, rfl⟩
  rw [hS] at hl3 hb3 h0 h3 h4
  have HS := Lib.hid hS
  have H0 := Lib.hid h0
  have H3 := Lib.hid h3
  have H4 := Lib.hid h4
  clear hS h0 h3 h4
  go_enter Try.func30, Try.ntmps30
  go_wp2_with fail
  refine (make_ok 3 [104, 105] _ _ _ _ (reads_two w) (by decide) (by decide) (by decide)).mono ?_
  rintro e w1 ⟨rfl, b1⟩
  rw [HS.out]
  have b1' : Below w.heap.size w w1 := ((Below.refl _ _).alloc (Nat.le_refl _) _).trans (b1.mono (by simp))
  have hs1 := b1'.size
  have hg2 := heap_alloc_new w1 (.cells (cells s) 41)
  have b2 := b1'.alloc hs1 (.cells (cells s) 41)
  clear b1 b1'
  go_wp2_with (refine wpList_store_sector rfl (.tmp 1) (.tmp 7) rfl w1.heap.size s rfl rfl hl3 _ _ (heap_alloc_new w1 _) rfl ?_; rw [World.setRow_alloc_new]; generalize w1.alloc (.cells (cells s) 41) = w2 at *)
  refine (crc_any _ 9 _ _ _ (reads_nine _) (by decide)).mono ?_
  rintro e w3 ⟨rfl, rfl⟩
  rw [crc_digits]
  have hs2 := b2.size
  have hgl : w1.heap.size < w2.heap.size := (Array.getElem?_eq_some_iff.1 hg2).1
  obtain ⟨w3, hw3⟩ : ∃ w3, w2.alloc (.cells #[.int .u8 49, .int .u8 50, .int .u8 51, .int .u8 52, .int .u8 53, .int .u8 54, .int .u8 55, .int .u8 56, .int .u8 57] 5 (9, 10)) = w3 := ⟨_, rfl⟩
  have b3 : Below w.heap.size w w3 := by rw [← hw3]; exact b2.alloc hs2 _
  have hg3 : w3.heap[w1.heap.size]? = some (.cells (cells s) 41 (0, 0)) := by rw [← hw3, Below.heap_alloc w2 _ _ hgl]; exact hg2
  have hgl3 : w1.heap.size < w3.heap.size := (Array.getElem?_eq_some_iff.1 hg3).1
  rw [hw3]
  have hc0 : w3.cell? ⟨w1.heap.size, 0, none⟩ = some (.int .u8 215) := by
    have := box_cells (w := w1) hl3 hg3 0 (by decide)
    rw [H0.out] at this
    exact this
  have HC3 := Lib.hid (box_cells (w := w1) hl3 hg3)
  have hs1' : w.heap.size ≤ w3.heap.size := b3.size
  clear hw3 hg2 b2 kc hz hs2 hgl
  go_wp2_with (refine wpList_load_sector_want rfl (.tmp 1) rfl w1.heap.size 0 s rfl hl3 HC3.out ?_)
  refine (is_any s 3 hl3 hb3 w3).mono ?_
  rintro e w4 ⟨rfl, b4⟩
  rw [H3.out]
  have hg4 : w4.heap[w1.heap.size]? = some (.cells (cells s) 41 (0, 0)) := by rw [b4.block _ hgl3]; exact hg3
  have HC4 := Lib.hid (box_cells (w := w1) hl3 hg4)
  have b4' := b3.trans (b4.mono hs1')
  clear hg3 hgl3 hc0 HC3 hs1' b4 b3 hg4
  go_wp2_with (refine wpList_load_sector_want rfl (.tmp 1) rfl w1.heap.size 0 s rfl hl3 HC4.out ?_)
  refine (is_any s 4 hl3 hb3 w4).mono ?_
  rintro e w5 ⟨rfl, b5⟩
  rw [H4.out]
  have b5' := b4'.trans (b5.mono b4'.size)
  clear b4' b5 HC4
  go_wp2
  go_ret
  exact ⟨rfl, b5'⟩
end Go.Proofs.Ytdcnmfkhalfjcaa
