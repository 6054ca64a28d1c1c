/- Blocks of a size, walked; layer 7's fixed fact; two places compared. -/
import Derived.Test.YthipeaighngpfaaDoorCost
namespace Go.Proofs.YthipeaighngpfaaDoor
open Go.RowKit Go.Sort Go.Maps Go.ChangeMaps
set_option linter.unusedVariables false
set_option linter.unusedSimpArgs false
set_option maxRecDepth 100000

def blocksI (s : Int) : Int := if s ≤ 0 then 0 else (s - 1) / 128 + 1
theorem pblocks_is (s : Int) (w : World) (hs : I64 s) : Calls Tryd.prog 15 #[.int .i64 s] w fun e w' => e = .returned (.int .i64 (blocksI s)) ∧ w = w' := by
  obtain ⟨s1, s2⟩ := hs
  by_cases h : s ≤ 0
  · have E : Hid (blocksI s = 0) := if_pos h
    go_enter Tryd.func15, Tryd.ntmps15
    go_wp2
    go_ret
    exact ⟨by rw [E.out]; rfl, rfl⟩
  · have E : Hid (blocksI s = (s - 1) / 128 + 1) := if_neg h
    have h1 : 1 ≤ s := by omega
    go_enter Tryd.func15, Tryd.ntmps15
    go_wp2
    go_ret
    exact ⟨by rw [E.out]; rfl, rfl⟩
set_option maxHeartbeats 1000000 in
theorem rblocks_is (s : Int) (w : World) (hs : 0 < s) (hs2 : s < 200000) : Calls Tryd.prog 16 #[.int .i64 s] w fun e w' => e = .returned (.int .i64 (blocksI s)) ∧ w = w' := by
  have E : Hid (blocksI s = (s - 1) / 128 + 1) := if_neg (by omega)
  go_enter Tryd.func16, Tryd.ntmps16
  go_wp2
  go_loop [3] (fun n => ∃ k : Nat, k ≤ 1700 ∧ n = .int .i64 k ∧ ((k : Int) - 1) * 128 < s) (fun n => 2000 - (intOf n).toNat)
  case atStart => exact ⟨0, by omega, rfl, by omega⟩
  case round =>
    obtain ⟨k, hk, rfl, hk2⟩ := hrel
    have hk3 : (k : Int) < 2000 := by omega
    by_cases h : 128 * (k : Int) < s
    · go_wp2
      go_round
      case rel => exact ⟨k + 1, by omega, by go_num, by omega⟩
      case measure => simp [intOf]; omega
    · have e : (k : Int) = (s - 1) / 128 + 1 := by omega
      have HE := Lib.hid e
      clear e
      go_wp2
      go_ret
      exact ⟨by rw [E.out, ← HE.out]; rfl, rfl⟩
theorem cost_four : costL [0, 8, 40, 41] = 8 := by decide
theorem reads_lit (w : World) (l : List Int) : ReadsI (w.alloc (.cells (l.map (Value.int .i64)).toArray 3)) (some ⟨w.heap.size, 0, none⟩) l.length l := by
  refine ⟨rfl, .inr ⟨w.heap.size, 0, rfl, by simp, fun i hi => ?_⟩⟩
  unfold World.cell?
  rw [heap_alloc_new]
  simp [List.getElem?_eq_getElem hi]
set_option maxHeartbeats 1000000 in
theorem awake7_true (w : World) (hw : BoundsAt w) : Calls Tryd.prog 14 #[] w fun e w' => e = .returned (.bool true) ∧ Below w.heap.size w w' := by
  have E1 : Hid (ofV 40 = .tuple #[.agg #[.int .i64 2, .int .i64 0, .int .i64 0], .int .i64 0]) := ofV_leaf (i := 40) (by decide) (by decide)
  have HW := Lib.hid hw
  clear hw
  go_enter Tryd.func14, Tryd.ntmps14
  go_wp2_with fail
  refine (pof_is 40 w HW.out ⟨by decide, by decide⟩).mono ?_
  rintro e w1 ⟨rfl, b1⟩
  rw [E1.out]
  have B1 := Lib.hid b1
  clear b1
  have HBW : Hid (BoundsAt w1) := HW.out.below B1.out
  have hbk : blocksI 129 = 2 := by decide
  have HBK := Lib.hid hbk
  have HC := Lib.hid cost_four
  have HR := Lib.hid (reads_lit (w1.alloc (.cells #[.int .i64 2, .int .i64 0, .int .i64 0] 31)) [0, 8, 40, 41])
  have HR2 : Hid (ReadsI ((w1.alloc (.cells #[.int .i64 2, .int .i64 0, .int .i64 0] 31)).alloc (.cells #[.int .i64 0, .int .i64 8, .int .i64 40, .int .i64 41] 3)) (some ⟨w1.heap.size + 1, 0, none⟩) 4 [0, 8, 40, 41]) := by
    have := HR.out
    show ReadsI _ _ _ _
    simpa using this
  have HB2 : Hid (BoundsAt ((w1.alloc (.cells #[.int .i64 2, .int .i64 0, .int .i64 0] 31)).alloc (.cells #[.int .i64 0, .int .i64 8, .int .i64 40, .int .i64 41] 3))) := (HBW.out.below (below_box _ _)).below (below_box _ _)
  have HB3 : Hid (Below w.heap.size w ((w1.alloc (.cells #[.int .i64 2, .int .i64 0, .int .i64 0] 31)).alloc (.cells #[.int .i64 0, .int .i64 8, .int .i64 40, .int .i64 41] 3))) := (B1.out.alloc B1.out.size _).alloc (by have := B1.out.size; simp; omega) _
  clear hbk HR
  go_wp2_with fail
  refine (pblocks_is 129 _ ⟨by decide, by decide⟩).mono ?_
  rintro e w2 ⟨rfl, rfl⟩
  rw [HBK.out]
  go_wp2_with fail
  refine (cost_is [0, 8, 40, 41] _ 4 4 _ HB2.out HR2.out (by intro x hx; simp at hx; rcases hx with rfl | rfl | rfl | rfl <;> exact ⟨by decide, by decide⟩) (by decide)).mono ?_
  rintro e w3 ⟨rfl, b3⟩
  rw [HC.out]
  have B3 : Hid (Below w.heap.size w w3) := HB3.out.trans (b3.mono HB3.out.size)
  clear b3
  go_wp2
  go_ret
  exact ⟨rfl, B3.out⟩

end Go.Proofs.YthipeaighngpfaaDoor
