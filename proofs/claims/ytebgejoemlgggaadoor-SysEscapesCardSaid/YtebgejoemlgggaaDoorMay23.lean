/- Flags that go together. -/
import Derived.Test.YtebgejoemlgggaaDoorBare23
namespace Go.Proofs.YtebgejoemlgggaaDoor
open Go.RowKit Go.Sort
set_option linter.unusedVariables false
set_option linter.unusedSimpArgs false
set_option maxRecDepth 100000

def flagB (f z : Int) : Bool := bits .and .i64 f z != 0
def mayOpenB (f : Int) : Bool := decide (0 ≤ f) && decide (f ≤ 63) && !(flagB f 16 && !flagB f 8) && !(flagB f 32 && !flagB f 6) && flagB f 7
set_option maxHeartbeats 400000 in
theorem flag_has (f z : Int) (b : Nat) (w : World) (h : w.cell? ⟨b, 0, none⟩ = some (.int .i64 f)) : Calls Tryd.prog 77 #[.int .i64 z, .pointer (some ⟨b, 0, none⟩)] w fun e w' => e = .returned (.bool (flagB f z)) ∧ w' = w := by
  obtain ⟨q, hq⟩ : ∃ q, bits .and .i64 f z = q := ⟨_, rfl⟩
  have HF : Hid (flagB f z = (q != 0)) := Lib.hid (by unfold flagB; rw [hq])
  go_enter Tryd.func77, Tryd.ntmps77
  go_wp2
  go_ret
  exact ⟨by rw [HF.out]; rfl, rfl⟩
set_option maxHeartbeats 1600000 in
theorem mayOpen_is (f : Int) (w : World) : Calls Tryd.prog 48 #[.int .i64 f] w fun e w' => e = .returned (.bool (mayOpenB f)) ∧ Below w.heap.size w w' := by
  have kx := below_box w (.cells #[.int .i64 f] 3)
  have nx := heap_alloc_new w (.cells #[.int .i64 f] 3)
  obtain ⟨w1, hw1⟩ : ∃ x, w.alloc (.cells #[.int .i64 f] 3) = x := ⟨_, rfl⟩
  rw [hw1] at kx nx
  have c0 := cell_atB nx 0
  have HC := Lib.hid (fun z => flag_has f z w.heap.size w1 c0)
  have KX := Lib.hid kx
  clear kx nx
  go_enter Tryd.func48, Tryd.ntmps48
  by_cases h0 : f < 0
  · have HM : Hid (mayOpenB f = false) := Lib.hid (by unfold mayOpenB; rw [decide_eq_false (show ¬ 0 ≤ f by omega)]; rfl)
    go_wp2
    go_ret
    exact ⟨by rw [HM.out]; rfl, KX.out⟩
  · by_cases h63 : 63 < f
    · have HM : Hid (mayOpenB f = false) := Lib.hid (by unfold mayOpenB; rw [decide_eq_true (show 0 ≤ f by omega), decide_eq_false (show ¬ f ≤ 63 by omega)]; rfl)
      go_wp2
      go_ret
      exact ⟨by rw [HM.out]; rfl, KX.out⟩
    · obtain ⟨b16, h16⟩ : ∃ b, flagB f 16 = b := ⟨_, rfl⟩
      obtain ⟨b8, h8⟩ : ∃ b, flagB f 8 = b := ⟨_, rfl⟩
      obtain ⟨b32, h32⟩ : ∃ b, flagB f 32 = b := ⟨_, rfl⟩
      obtain ⟨b6, h6⟩ : ∃ b, flagB f 6 = b := ⟨_, rfl⟩
      obtain ⟨b7, h7⟩ : ∃ b, flagB f 7 = b := ⟨_, rfl⟩
      have HM : Hid (mayOpenB f = (!(b16 && !b8) && !(b32 && !b6) && b7)) := Lib.hid (by unfold mayOpenB; rw [decide_eq_true (show 0 ≤ f by omega), decide_eq_true (show f ≤ 63 by omega), h16, h8, h32, h6, h7]; rfl)
      have H16 := Lib.hid (HC.out 16)
      have H8 := Lib.hid (HC.out 8)
      have H32 := Lib.hid (HC.out 32)
      have H6 := Lib.hid (HC.out 6)
      have H7 := Lib.hid (HC.out 7)
      rw [h16] at H16
      rw [h8] at H8
      rw [h32] at H32
      rw [h6] at H6
      rw [h7] at H7
      clear h16 h8 h32 h6 h7 HC
      cases b16
      · skip
        go_wp2_with fail
        refine H16.out.mono ?_
        rintro e w2 ⟨rfl, rfl⟩
        cases b32
        · skip
          go_wp2_with fail
          refine H32.out.mono ?_
          rintro e w2 ⟨rfl, rfl⟩
          go_wp2_with fail
          refine H7.out.mono ?_
          rintro e w2 ⟨rfl, rfl⟩
          go_wp2
          go_ret
          exact ⟨by rw [HM.out]; rfl, KX.out⟩
        · cases b6
          · skip
            go_wp2_with fail
            refine H32.out.mono ?_
            rintro e w2 ⟨rfl, rfl⟩
            go_wp2_with fail
            refine H6.out.mono ?_
            rintro e w2 ⟨rfl, rfl⟩
            go_wp2
            go_ret
            exact ⟨by rw [HM.out]; rfl, KX.out⟩
          · skip
            go_wp2_with fail
            refine H32.out.mono ?_
            rintro e w2 ⟨rfl, rfl⟩
            go_wp2_with fail
            refine H6.out.mono ?_
            rintro e w2 ⟨rfl, rfl⟩
            go_wp2_with fail
            refine H7.out.mono ?_
            rintro e w2 ⟨rfl, rfl⟩
            go_wp2
            go_ret
            exact ⟨by rw [HM.out]; rfl, KX.out⟩
      · cases b8
        · skip
          go_wp2_with fail
          refine H16.out.mono ?_
          rintro e w2 ⟨rfl, rfl⟩
          go_wp2_with fail
          refine H8.out.mono ?_
          rintro e w2 ⟨rfl, rfl⟩
          go_wp2
          go_ret
          exact ⟨by rw [HM.out]; rfl, KX.out⟩
        · skip
          go_wp2_with fail
          refine H16.out.mono ?_
          rintro e w2 ⟨rfl, rfl⟩
          go_wp2_with fail
          refine H8.out.mono ?_
          rintro e w2 ⟨rfl, rfl⟩
          cases b32
          · skip
            go_wp2_with fail
            refine H32.out.mono ?_
            rintro e w2 ⟨rfl, rfl⟩
            go_wp2_with fail
            refine H7.out.mono ?_
            rintro e w2 ⟨rfl, rfl⟩
            go_wp2
            go_ret
            exact ⟨by rw [HM.out]; rfl, KX.out⟩
          · cases b6
            · skip
              go_wp2_with fail
              refine H32.out.mono ?_
              rintro e w2 ⟨rfl, rfl⟩
              go_wp2_with fail
              refine H6.out.mono ?_
              rintro e w2 ⟨rfl, rfl⟩
              go_wp2
              go_ret
              exact ⟨by rw [HM.out]; rfl, KX.out⟩
            · skip
              go_wp2_with fail
              refine H32.out.mono ?_
              rintro e w2 ⟨rfl, rfl⟩
              go_wp2_with fail
              refine H6.out.mono ?_
              rintro e w2 ⟨rfl, rfl⟩
              go_wp2_with fail
              refine H7.out.mono ?_
              rintro e w2 ⟨rfl, rfl⟩
              go_wp2
              go_ret
              exact ⟨by rw [HM.out]; rfl, KX.out⟩
end Go.Proofs.YtebgejoemlgggaaDoor
