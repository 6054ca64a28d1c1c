/- The program's geometry, by its walks. -/
import Derived.Test.YtedhfgadphjobaaHush
import Derived.Test.YtedhfgadphjobaaGeoMath
namespace Go.Proofs.Ytedhfgadphjobaa
open Go.RowKit Go.Sort
set_option linter.unusedVariables false
set_option maxRecDepth 100000

def amongB (n lo hi : Int) : Bool := decide (lo ≤ n ∧ n ≤ hi)
theorem amongB_yes {n lo hi : Int} (h : lo ≤ n ∧ n ≤ hi) : amongB n lo hi = true := decide_eq_true h
theorem amongB_no {n lo hi : Int} (h : ¬ (lo ≤ n ∧ n ≤ hi)) : amongB n lo hi = false := decide_eq_false h

theorem among_any (n lo hi : Int) (w : World) : Calls Try.prog 74 #[.int .i64 n, .int .i64 lo, .int .i64 hi] w fun e w' => e = .returned (.bool (amongB n lo hi)) ∧ w = w' := by
  by_cases h1 : lo ≤ n
  · by_cases h2 : n ≤ hi
    · have hr := amongB_yes (n := n) (lo := lo) (hi := hi) ⟨h1, h2⟩
      go_enter Try.func74, Try.ntmps74
      go_wp2
      go_ret
      exact ⟨by first | rfl | (rw [hr]; rfl), rfl⟩
    · have hr := amongB_no (n := n) (lo := lo) (hi := hi) (by omega)
      go_enter Try.func74, Try.ntmps74
      go_wp2
      go_ret
      exact ⟨by first | rfl | (rw [hr]; rfl), rfl⟩
  · have hr := amongB_no (n := n) (lo := lo) (hi := hi) (by omega)
    go_enter Try.func74, Try.ntmps74
    go_wp2
    go_ret
    exact ⟨by first | rfl | (rw [hr]; rfl), rfl⟩
theorem among_is (b : Bool) (n lo hi : Int) (w : World) (h : amongB n lo hi = b) : Calls Try.prog 74 #[.int .i64 n, .int .i64 lo, .int .i64 hi] w fun e w' => e = .returned (.bool b) ∧ w = w' := by
  rw [← h]; exact among_any n lo hi w

theorem parts_any (n k : Int) (w : World) (h0 : 0 ≤ n) (hn : n ≤ 1000) (h1 : 1 ≤ k) (hk : k ≤ 1000) : Calls Try.prog 135 #[.int .i64 n, .int .i64 k] w fun e w' => e = .returned (.int .i64 (upI n k)) ∧ w = w' := by
  have hz : ((k : Int) == 0) = false := by simp; omega
  go_enter Try.func135, Try.ntmps135
  go_wp2
  go_ret
  exact ⟨rfl, rfl⟩

theorem gcap_any (s g i : Int) (w : World) : Calls Try.prog 126 #[.agg #[.int .i64 s, .int .i64 g, .int .i64 i]] w fun e w' => e = .returned (.int .i64 (wrap64 (g * 8))) ∧ Below w.heap.size w w' := by
  have hb := below_box w (.cells #[.int .i64 s, .int .i64 g, .int .i64 i] 67)
  go_enter Try.func126, Try.ntmps126
  go_wp2
  go_ret
  exact ⟨rfl, hb⟩
theorem cap_wrap {s g i : Int} (h : bnd s g i) : wrap64 (g * 8) = 8 * g := by
  unfold bnd at h
  rw [IntWalk.wrap64_in _ (by omega)]
  omega
theorem gcap_is {s g i : Int} (w : World) (h : bnd s g i) : Calls Try.prog 126 #[.agg #[.int .i64 s, .int .i64 g, .int .i64 i]] w fun e w' => e = .returned (.int .i64 (8 * g)) ∧ Below w.heap.size w w' := by
  rw [← cap_wrap h]; exact gcap_any s g i w

theorem gchunks_is {s g i : Int} (w : World) (h : bnd s g i) : Calls Try.prog 120 #[.agg #[.int .i64 s, .int .i64 g, .int .i64 i]] w fun e w' => e = .returned (.int .i64 (chunksI i)) ∧ Below w.heap.size w w' := by
  have hb := below_box w (.cells #[.int .i64 s, .int .i64 g, .int .i64 i] 67)
  have he : upI i 10 = chunksI i := by unfold upI chunksI; congr 1; omega
  have HE := Lib.hid he
  clear he
  unfold bnd at h
  go_enter Try.func120, Try.ntmps120
  go_wp2_with (go_at_call 135; refine (parts_any _ _ _ (by omega) (by omega) (by decide) (by decide)).mono ?_; rintro e w' ⟨rfl, rfl⟩)
  go_ret
  exact ⟨by rw [HE.out]; rfl, hb⟩
theorem gtables_is {s g i : Int} (w : World) (h : bnd s g i) : Calls Try.prog 121 #[.agg #[.int .i64 s, .int .i64 g, .int .i64 i]] w fun e w' => e = .returned (.int .i64 (tablesI s)) ∧ Below w.heap.size w w' := by
  have hb := below_box w (.cells #[.int .i64 s, .int .i64 g, .int .i64 i] 67)
  have he : upI s 15 = tablesI s := by unfold upI tablesI; congr 1; omega
  have HE := Lib.hid he
  clear he
  unfold bnd at h
  go_enter Try.func121, Try.ntmps121
  go_wp2_with (go_at_call 135; refine (parts_any _ _ _ (by omega) (by omega) (by decide) (by decide)).mono ?_; rintro e w' ⟨rfl, rfl⟩)
  go_ret
  exact ⟨by rw [HE.out]; rfl, hb⟩

def bndB (s g i : Int) : Bool := decide (bnd s g i)
theorem bounded_any (s g i : Int) (w : World) : Calls Try.prog 136 #[.agg #[.int .i64 s, .int .i64 g, .int .i64 i]] w fun e w' => e = .returned (.bool (bndB s g i)) ∧ Below w.heap.size w w' := by
  have hb := below_box w (.cells #[.int .i64 s, .int .i64 g, .int .i64 i] 67)
  by_cases h1 : 8 ≤ s ∧ s ≤ 200
  · by_cases h2 : 1 ≤ g ∧ g ≤ 32
    · by_cases h3 : 2 ≤ i ∧ i ≤ 200
      · have hr : bndB s g i = true := decide_eq_true (by unfold bnd; omega)
        go_enter Try.func136, Try.ntmps136
        go_wp2_with fail
        refine (among_is true s 8 200 _ (amongB_yes h1)).mono ?_
        rintro e w' ⟨rfl, rfl⟩
        go_wp2_with fail
        refine (among_is true g 1 32 _ (amongB_yes h2)).mono ?_
        rintro e w' ⟨rfl, rfl⟩
        go_wp2_with fail
        refine (among_is true i 2 200 _ (amongB_yes h3)).mono ?_
        rintro e w' ⟨rfl, rfl⟩
        go_wp2
        go_ret
        exact ⟨by rw [hr]; rfl, hb⟩
      · have hr : bndB s g i = false := decide_eq_false (by unfold bnd; omega)
        go_enter Try.func136, Try.ntmps136
        go_wp2_with fail
        refine (among_is true s 8 200 _ (amongB_yes h1)).mono ?_
        rintro e w' ⟨rfl, rfl⟩
        go_wp2_with fail
        refine (among_is true g 1 32 _ (amongB_yes h2)).mono ?_
        rintro e w' ⟨rfl, rfl⟩
        go_wp2_with fail
        refine (among_is false i 2 200 _ (amongB_no h3)).mono ?_
        rintro e w' ⟨rfl, rfl⟩
        go_wp2
        go_ret
        exact ⟨by rw [hr]; rfl, hb⟩
    · have hr : bndB s g i = false := decide_eq_false (by unfold bnd; omega)
      go_enter Try.func136, Try.ntmps136
      go_wp2_with fail
      refine (among_is true s 8 200 _ (amongB_yes h1)).mono ?_
      rintro e w' ⟨rfl, rfl⟩
      go_wp2_with fail
      refine (among_is false g 1 32 _ (amongB_no h2)).mono ?_
      rintro e w' ⟨rfl, rfl⟩
      go_wp2
      go_ret
      exact ⟨by rw [hr]; rfl, hb⟩
  · have hr : bndB s g i = false := decide_eq_false (by unfold bnd; omega)
    go_enter Try.func136, Try.ntmps136
    go_wp2_with fail
    refine (among_is false s 8 200 _ (amongB_no h1)).mono ?_
    rintro e w' ⟨rfl, rfl⟩
    go_wp2
    go_ret
    exact ⟨by rw [hr]; rfl, hb⟩
theorem bounded_is (b : Bool) {s g i : Int} (w : World) (h : bndB s g i = b) : Calls Try.prog 136 #[.agg #[.int .i64 s, .int .i64 g, .int .i64 i]] w fun e w' => e = .returned (.bool b) ∧ Below w.heap.size w w' := by
  rw [← h]; exact bounded_any s g i w
end Go.Proofs.Ytedhfgadphjobaa
