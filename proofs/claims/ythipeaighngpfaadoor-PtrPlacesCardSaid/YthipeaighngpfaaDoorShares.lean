/- Do two blocks hang on the same pointer block? The program's walk. -/
import Derived.Test.YthipeaighngpfaaDoorAwake7
namespace Go.Proofs.YthipeaighngpfaaDoor
open Go.RowKit Go.Sort Go.Maps Go.ChangeMaps
set_option linter.unusedVariables false
set_option linter.unusedSimpArgs false
set_option maxRecDepth 100000

def shB (e1 e2 l1 l2 f1 f2 : Int) : Bool := decide (e1 = 0 ∧ e2 = 0 ∧ 0 < l1 ∧ l1 = l2 ∧ f1 = f2)
theorem shB_no {e1 e2 l1 l2 f1 f2 : Int} (h : ¬ (e1 = 0 ∧ e2 = 0 ∧ 0 < l1 ∧ l1 = l2 ∧ f1 = f2)) : shB e1 e2 l1 l2 f1 f2 = false := decide_eq_false h
theorem shB_yes {e1 e2 l1 l2 f1 f2 : Int} (h : e1 = 0 ∧ e2 = 0 ∧ 0 < l1 ∧ l1 = l2 ∧ f1 = f2) : shB e1 e2 l1 l2 f1 f2 = true := decide_eq_true h
def sharesB (a b : Int) : Bool := shB (ofE a) (ofE b) (ofL a) (ofL b) (ofF a) (ofF b)
theorem eq0 {x : Int} (h : x ≠ 0) : ((x == 0) = false) ∧ ((x != 0) = true) := by simp [h]
theorem eqx {x y : Int} (h : x ≠ y) : (x == y) = false := by simp [h]

set_option maxHeartbeats 3200000 in
theorem pshares_is (a b : Int) (w : World) (hw : BoundsAt w) (ha : I64 a) (hb : I64 b) : Calls Tryd.prog 18 #[.int .i64 a, .int .i64 b] w fun e w' => e = .returned (.bool (sharesB a b)) ∧ Below w.heap.size w w' := by
  have HW := Lib.hid hw
  have HA := Lib.hid ha
  have HB := Lib.hid hb
  have ha' := ha
  obtain ⟨a1, a2⟩ := ha'
  have hb' := hb
  obtain ⟨b1, b2⟩ := hb'
  have sa := of_small a
  have sb := of_small b
  unfold sharesB
  have EA : Hid (ofV a = .tuple #[.agg #[.int .i64 (ofL a), .int .i64 (ofF a), .int .i64 (ofS a)], .int .i64 (ofE a)]) := rfl
  have EB : Hid (ofV b = .tuple #[.agg #[.int .i64 (ofL b), .int .i64 (ofF b), .int .i64 (ofS b)], .int .i64 (ofE b)]) := rfl
  clear hw ha hb
  generalize ofL a = l1 at *
  generalize ofF a = f1 at *
  generalize ofS a = s1 at *
  generalize ofE a = e1 at *
  generalize ofL b = l2 at *
  generalize ofF b = f2 at *
  generalize ofS b = s2 at *
  generalize ofE b = e2 at *
  obtain ⟨⟨_, _⟩, ⟨_, _⟩, ⟨_, _⟩, _, _⟩ := sa
  obtain ⟨⟨_, _⟩, ⟨_, _⟩, ⟨_, _⟩, _, _⟩ := sb
  go_enter Tryd.func18, Tryd.ntmps18
  go_wp2_with fail
  refine (pof_is a w HW.out HA.out).mono ?_
  rintro e w1 ⟨rfl, c1⟩
  rw [EA.out]
  have C1 := Lib.hid c1
  have HW1 : Hid (BoundsAt (w1.alloc (.cells #[.int .i64 l1, .int .i64 f1, .int .i64 s1] 31))) := (HW.out.below c1).below (below_box _ _)
  have hx := box3_new w1 (.int .i64 l1) (.int .i64 f1) (.int .i64 s1) 31
  have HC1 : Hid (Below w.heap.size w (w1.alloc (.cells #[.int .i64 l1, .int .i64 f1, .int .i64 s1] 31))) := C1.out.alloc C1.out.size _
  clear c1
  go_wp2_with fail
  refine (pof_is b _ HW1.out HB.out).mono ?_
  rintro e w2 ⟨rfl, c2⟩
  rw [EB.out]
  have HC2 : Hid (Below w.heap.size w (w2.alloc (.cells #[.int .i64 l2, .int .i64 f2, .int .i64 s2] 31))) := (HC1.out.trans (c2.mono HC1.out.size)).alloc (Nat.le_trans HC1.out.size c2.size) _
  obtain ⟨hg, d0, d1, d2⟩ := hx.below c2
  clear c2 hx
  by_cases he1 : e1 = 0
  · subst he1
    by_cases he2 : e2 = 0
    · subst he2
      by_cases hl1 : l1 = 0
      · subst hl1
        have HS := Lib.hid (shB_no (e1 := 0) (e2 := 0) (l1 := 0) (l2 := l2) (f1 := f1) (f2 := f2) (by omega))
        go_wp2
        go_ret
        exact ⟨by rw [HS.out]; rfl, HC2.out⟩
      · obtain ⟨q1, q2⟩ := eq0 hl1
        by_cases hll : l1 = l2
        · subst hll
          by_cases hff : f1 = f2
          · subst hff
            have HS := Lib.hid (shB_yes (e1 := 0) (e2 := 0) (l1 := l1) (l2 := l1) (f1 := f1) (f2 := f1) (by omega))
            go_wp2
            go_ret
            exact ⟨by rw [HS.out]; simp, HC2.out⟩
          · have q3 := eqx hff
            have HS := Lib.hid (shB_no (e1 := 0) (e2 := 0) (l1 := l1) (l2 := l1) (f1 := f1) (f2 := f2) (by omega))
            clear hff
            go_wp2
            go_ret
            exact ⟨by rw [HS.out]; simp, HC2.out⟩
        · have q3 := eqx hll
          have HS := Lib.hid (shB_no (e1 := 0) (e2 := 0) (l1 := l1) (l2 := l2) (f1 := f1) (f2 := f2) (by omega))
          clear hll
          go_wp2
          go_ret
          exact ⟨by rw [HS.out]; simp, HC2.out⟩
    · obtain ⟨q1, q2⟩ := eq0 he2
      have HS := Lib.hid (shB_no (e1 := 0) (e2 := e2) (l1 := l1) (l2 := l2) (f1 := f1) (f2 := f2) (by omega))
      clear he2
      go_wp2
      go_ret
      exact ⟨by rw [HS.out]; rfl, HC2.out⟩
  · obtain ⟨q1, q2⟩ := eq0 he1
    have HS := Lib.hid (shB_no (e1 := e1) (e2 := e2) (l1 := l1) (l2 := l2) (f1 := f1) (f2 := f2) (by omega))
    clear he1
    go_wp2
    go_ret
    exact ⟨by rw [HS.out]; rfl, HC2.out⟩
end Go.Proofs.YthipeaighngpfaaDoor
