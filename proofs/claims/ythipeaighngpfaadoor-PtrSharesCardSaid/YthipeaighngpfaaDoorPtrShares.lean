/- The law PtrShares is true for every input: two blocks hang on the same one just where the document says so. No condition but that the table ptr.bounds reads as the program's text lays it, to which the card ties it. -/
import Derived.Test.YthipeaighngpfaaDoorShares
import Derived.Test.YthipeaighngpfaaDoorCards
import Derived.Test.YthipeaighngpfaaDoorTie
import Derived.SevenTiedAt
namespace Go.Proofs.YthipeaighngpfaaDoor
open Go.ChangeShapes Go.WideShapes Go.ChangeAt Go.RowKit Go.Sort
set_option linter.unusedVariables false
set_option linter.unusedSimpArgs false
set_option maxRecDepth 100000

theorem shB_comm (e1 e2 l1 l2 f1 f2 : Int) : shB e2 e1 l2 l1 f2 f1 = shB e1 e2 l1 l2 f1 f2 := by
  unfold shB
  exact decide_eq_decide.2 (by omega)
theorem sharesB_comm (a b : Int) : sharesB b a = sharesB a b := shB_comm _ _ _ _ _ _
theorem ofE_zero {i : Int} (h : ofE i = 0) : isB i = true := by
  cases hb : isB i with
  | true => rfl
  | false => rcases ofE_no hb with e | e <;> omega
theorem bne_true {x y : Int} (h : x ≠ y) : (x != y) = true := by simp [h]

set_option maxHeartbeats 3200000 in
theorem shares_n1s (a b : Int) (w : World) (hw : BoundsAt w) (ha : I64 a) (hb : I64 b) (h : ofE a ≠ 0) (hab : a = b) : Calls Tryd.prog 4 #[.int .i64 a, .int .i64 b] w fun e w' => e = .returned (.bool true) ∧ Below w.heap.size w w' := by
  have HW := Lib.hid hw
  have HA := Lib.hid ha
  have HB := Lib.hid hb
  have hsh : sharesB a b = false := by unfold sharesB; exact shB_no (by omega)
  have hsh2 : sharesB b a = false := (sharesB_comm a b).trans hsh
  have HS1 := Lib.hid hsh
  have HS2 := Lib.hid hsh2
  obtain ⟨a1, a2⟩ := ha
  obtain ⟨b1, b2⟩ := hb
  have sa := of_small a
  have sb := of_small b
  have EA : Hid (ofV a = .tuple #[.agg #[.int .i64 (ofL a), .int .i64 (ofF a), .int .i64 (ofS a)], .int .i64 (ofE a)]) := rfl
  have EB : Hid (ofV b = .tuple #[.agg #[.int .i64 (ofL b), .int .i64 (ofF b), .int .i64 (ofS b)], .int .i64 (ofE b)]) := rfl
  clear hw hsh hsh2
  obtain ⟨l1, hl1⟩ : ∃ x, ofL a = x := ⟨_, rfl⟩
  obtain ⟨f1, hf1⟩ : ∃ x, ofF a = x := ⟨_, rfl⟩
  obtain ⟨s1, hs1⟩ : ∃ x, ofS a = x := ⟨_, rfl⟩
  obtain ⟨e1, he1⟩ : ∃ x, ofE a = x := ⟨_, rfl⟩
  obtain ⟨l2, hl2⟩ : ∃ x, ofL b = x := ⟨_, rfl⟩
  obtain ⟨f2, hf2⟩ : ∃ x, ofF b = x := ⟨_, rfl⟩
  obtain ⟨s2, hs2⟩ : ∃ x, ofS b = x := ⟨_, rfl⟩
  obtain ⟨e2, he2⟩ : ∃ x, ofE b = x := ⟨_, rfl⟩
  rw [hl1, hf1, hs1, he1] at EA sa
  rw [hl2, hf2, hs2, he2] at EB sb
  rw [he1] at h
  clear he1 he2 hl1 hl2 hf1 hf2 hs1 hs2
  obtain ⟨⟨_, _⟩, ⟨_, _⟩, ⟨_, _⟩, _, _⟩ := sa
  obtain ⟨⟨_, _⟩, ⟨_, _⟩, ⟨_, _⟩, _, _⟩ := sb
  obtain ⟨q1, q2⟩ := eq0 h
  clear h
  subst hab
  go_enter Tryd.func4, Tryd.ntmps4
  go_wp2_with fail
  refine (awake7_true w HW.out).mono ?_
  rintro e w0 ⟨rfl, c0⟩
  have C0 := Lib.hid c0
  have HW0 : Hid (BoundsAt w0) := HW.out.below c0
  clear c0
  go_wp2_with fail
  refine (rof_is a w0 HA.out).mono ?_
  rintro e w1 ⟨rfl, c1⟩
  rw [EA.out]
  have HW1 : Hid (BoundsAt (w1.alloc (.cells #[.int .i64 l1, .int .i64 f1, .int .i64 s1] 26))) := (HW0.out.below c1).below (below_box _ _)
  have hx := box3_new w1 (.int .i64 l1) (.int .i64 f1) (.int .i64 s1) 26
  have HC1 : Hid (Below w.heap.size w (w1.alloc (.cells #[.int .i64 l1, .int .i64 f1, .int .i64 s1] 26))) := (C0.out.trans (c1.mono C0.out.size)).alloc (Nat.le_trans C0.out.size c1.size) _
  clear c1
  go_wp2_with fail
  refine (rof_is a _ HA.out).mono ?_
  rintro e w2 ⟨rfl, c2⟩
  rw [EB.out]
  have HW2 : Hid (BoundsAt (w2.alloc (.cells #[.int .i64 l2, .int .i64 f2, .int .i64 s2] 26))) := (HW1.out.below c2).below (below_box _ _)
  have HC2 : Hid (Below w.heap.size w (w2.alloc (.cells #[.int .i64 l2, .int .i64 f2, .int .i64 s2] 26))) := (HC1.out.trans (c2.mono HC1.out.size)).alloc (Nat.le_trans HC1.out.size c2.size) _
  obtain ⟨hg, d0, d1, d2⟩ := hx.below c2
  clear c2 hx
  go_wp2_with fail
  refine (pshares_is a a _ HW2.out HA.out HA.out).mono ?_
  rintro e w3 ⟨rfl, c3⟩
  rw [HS1.out]
  have HW3 : Hid (BoundsAt w3) := HW2.out.below c3
  have HC3 : Hid (Below w.heap.size w w3) := HC2.out.trans (c3.mono HC2.out.size)
  clear c3 d0 d1 d2 hg
  go_wp2_with fail
  refine (pshares_is a a _ HW3.out HA.out HA.out).mono ?_
  rintro e w4 ⟨rfl, c4⟩
  rw [HS2.out]
  have HW4 : Hid (BoundsAt w4) := HW3.out.below c4
  have HC4 : Hid (Below w.heap.size w w4) := HC3.out.trans (c4.mono HC3.out.size)
  clear c4
  go_wp2
  go_ret
  exact ⟨rfl, HC4.out⟩

set_option maxHeartbeats 3200000 in
theorem shares_n1d (a b : Int) (w : World) (hw : BoundsAt w) (ha : I64 a) (hb : I64 b) (h : ofE a ≠ 0) (hab : a ≠ b) : Calls Tryd.prog 4 #[.int .i64 a, .int .i64 b] w fun e w' => e = .returned (.bool true) ∧ Below w.heap.size w w' := by
  have HW := Lib.hid hw
  have HA := Lib.hid ha
  have HB := Lib.hid hb
  have hsh : sharesB a b = false := by unfold sharesB; exact shB_no (by omega)
  have hsh2 : sharesB b a = false := (sharesB_comm a b).trans hsh
  have HS1 := Lib.hid hsh
  have HS2 := Lib.hid hsh2
  obtain ⟨a1, a2⟩ := ha
  obtain ⟨b1, b2⟩ := hb
  have sa := of_small a
  have sb := of_small b
  have EA : Hid (ofV a = .tuple #[.agg #[.int .i64 (ofL a), .int .i64 (ofF a), .int .i64 (ofS a)], .int .i64 (ofE a)]) := rfl
  have EB : Hid (ofV b = .tuple #[.agg #[.int .i64 (ofL b), .int .i64 (ofF b), .int .i64 (ofS b)], .int .i64 (ofE b)]) := rfl
  clear hw hsh hsh2
  obtain ⟨l1, hl1⟩ : ∃ x, ofL a = x := ⟨_, rfl⟩
  obtain ⟨f1, hf1⟩ : ∃ x, ofF a = x := ⟨_, rfl⟩
  obtain ⟨s1, hs1⟩ : ∃ x, ofS a = x := ⟨_, rfl⟩
  obtain ⟨e1, he1⟩ : ∃ x, ofE a = x := ⟨_, rfl⟩
  obtain ⟨l2, hl2⟩ : ∃ x, ofL b = x := ⟨_, rfl⟩
  obtain ⟨f2, hf2⟩ : ∃ x, ofF b = x := ⟨_, rfl⟩
  obtain ⟨s2, hs2⟩ : ∃ x, ofS b = x := ⟨_, rfl⟩
  obtain ⟨e2, he2⟩ : ∃ x, ofE b = x := ⟨_, rfl⟩
  rw [hl1, hf1, hs1, he1] at EA sa
  rw [hl2, hf2, hs2, he2] at EB sb
  rw [he1] at h
  clear he1 he2 hl1 hl2 hf1 hf2 hs1 hs2
  obtain ⟨⟨_, _⟩, ⟨_, _⟩, ⟨_, _⟩, _, _⟩ := sa
  obtain ⟨⟨_, _⟩, ⟨_, _⟩, ⟨_, _⟩, _, _⟩ := sb
  obtain ⟨q1, q2⟩ := eq0 h
  clear h
  have q5 := bne_true hab
  clear hab
  go_enter Tryd.func4, Tryd.ntmps4
  go_wp2_with fail
  refine (awake7_true w HW.out).mono ?_
  rintro e w0 ⟨rfl, c0⟩
  have C0 := Lib.hid c0
  have HW0 : Hid (BoundsAt w0) := HW.out.below c0
  clear c0
  go_wp2_with fail
  refine (rof_is a w0 HA.out).mono ?_
  rintro e w1 ⟨rfl, c1⟩
  rw [EA.out]
  have HW1 : Hid (BoundsAt (w1.alloc (.cells #[.int .i64 l1, .int .i64 f1, .int .i64 s1] 26))) := (HW0.out.below c1).below (below_box _ _)
  have hx := box3_new w1 (.int .i64 l1) (.int .i64 f1) (.int .i64 s1) 26
  have HC1 : Hid (Below w.heap.size w (w1.alloc (.cells #[.int .i64 l1, .int .i64 f1, .int .i64 s1] 26))) := (C0.out.trans (c1.mono C0.out.size)).alloc (Nat.le_trans C0.out.size c1.size) _
  clear c1
  go_wp2_with fail
  refine (rof_is b _ HB.out).mono ?_
  rintro e w2 ⟨rfl, c2⟩
  rw [EB.out]
  have HW2 : Hid (BoundsAt (w2.alloc (.cells #[.int .i64 l2, .int .i64 f2, .int .i64 s2] 26))) := (HW1.out.below c2).below (below_box _ _)
  have HC2 : Hid (Below w.heap.size w (w2.alloc (.cells #[.int .i64 l2, .int .i64 f2, .int .i64 s2] 26))) := (HC1.out.trans (c2.mono HC1.out.size)).alloc (Nat.le_trans HC1.out.size c2.size) _
  obtain ⟨hg, d0, d1, d2⟩ := hx.below c2
  clear c2 hx
  go_wp2_with fail
  refine (pshares_is a b _ HW2.out HA.out HB.out).mono ?_
  rintro e w3 ⟨rfl, c3⟩
  rw [HS1.out]
  have HW3 : Hid (BoundsAt w3) := HW2.out.below c3
  have HC3 : Hid (Below w.heap.size w w3) := HC2.out.trans (c3.mono HC2.out.size)
  clear c3 d0 d1 d2 hg
  go_wp2_with fail
  refine (pshares_is b a _ HW3.out HB.out HA.out).mono ?_
  rintro e w4 ⟨rfl, c4⟩
  rw [HS2.out]
  have HW4 : Hid (BoundsAt w4) := HW3.out.below c4
  have HC4 : Hid (Below w.heap.size w w4) := HC3.out.trans (c4.mono HC3.out.size)
  clear c4
  go_wp2
  go_ret
  exact ⟨rfl, HC4.out⟩

set_option maxHeartbeats 3200000 in
theorem shares_n2d (a b : Int) (w : World) (hw : BoundsAt w) (ha : I64 a) (hb : I64 b) (h : ofE a = 0 ∧ ofE b ≠ 0) (hab : a ≠ b) : Calls Tryd.prog 4 #[.int .i64 a, .int .i64 b] w fun e w' => e = .returned (.bool true) ∧ Below w.heap.size w w' := by
  have HW := Lib.hid hw
  have HA := Lib.hid ha
  have HB := Lib.hid hb
  have hsh : sharesB a b = false := by unfold sharesB; exact shB_no (by omega)
  have hsh2 : sharesB b a = false := (sharesB_comm a b).trans hsh
  have HS1 := Lib.hid hsh
  have HS2 := Lib.hid hsh2
  obtain ⟨a1, a2⟩ := ha
  obtain ⟨b1, b2⟩ := hb
  have sa := of_small a
  have sb := of_small b
  have EA : Hid (ofV a = .tuple #[.agg #[.int .i64 (ofL a), .int .i64 (ofF a), .int .i64 (ofS a)], .int .i64 (ofE a)]) := rfl
  have EB : Hid (ofV b = .tuple #[.agg #[.int .i64 (ofL b), .int .i64 (ofF b), .int .i64 (ofS b)], .int .i64 (ofE b)]) := rfl
  clear hw hsh hsh2
  obtain ⟨l1, hl1⟩ : ∃ x, ofL a = x := ⟨_, rfl⟩
  obtain ⟨f1, hf1⟩ : ∃ x, ofF a = x := ⟨_, rfl⟩
  obtain ⟨s1, hs1⟩ : ∃ x, ofS a = x := ⟨_, rfl⟩
  obtain ⟨e1, he1⟩ : ∃ x, ofE a = x := ⟨_, rfl⟩
  obtain ⟨l2, hl2⟩ : ∃ x, ofL b = x := ⟨_, rfl⟩
  obtain ⟨f2, hf2⟩ : ∃ x, ofF b = x := ⟨_, rfl⟩
  obtain ⟨s2, hs2⟩ : ∃ x, ofS b = x := ⟨_, rfl⟩
  obtain ⟨e2, he2⟩ : ∃ x, ofE b = x := ⟨_, rfl⟩
  rw [hl1, hf1, hs1, he1] at EA sa
  rw [hl2, hf2, hs2, he2] at EB sb
  rw [he1, he2] at h
  clear he1 he2 hl1 hl2 hf1 hf2 hs1 hs2
  obtain ⟨⟨_, _⟩, ⟨_, _⟩, ⟨_, _⟩, _, _⟩ := sa
  obtain ⟨⟨_, _⟩, ⟨_, _⟩, ⟨_, _⟩, _, _⟩ := sb
  obtain ⟨rfl, h⟩ := h
  obtain ⟨q1, q2⟩ := eq0 h
  clear h
  have q5 := bne_true hab
  clear hab
  go_enter Tryd.func4, Tryd.ntmps4
  go_wp2_with fail
  refine (awake7_true w HW.out).mono ?_
  rintro e w0 ⟨rfl, c0⟩
  have C0 := Lib.hid c0
  have HW0 : Hid (BoundsAt w0) := HW.out.below c0
  clear c0
  go_wp2_with fail
  refine (rof_is a w0 HA.out).mono ?_
  rintro e w1 ⟨rfl, c1⟩
  rw [EA.out]
  have HW1 : Hid (BoundsAt (w1.alloc (.cells #[.int .i64 l1, .int .i64 f1, .int .i64 s1] 26))) := (HW0.out.below c1).below (below_box _ _)
  have hx := box3_new w1 (.int .i64 l1) (.int .i64 f1) (.int .i64 s1) 26
  have HC1 : Hid (Below w.heap.size w (w1.alloc (.cells #[.int .i64 l1, .int .i64 f1, .int .i64 s1] 26))) := (C0.out.trans (c1.mono C0.out.size)).alloc (Nat.le_trans C0.out.size c1.size) _
  clear c1
  go_wp2_with fail
  refine (rof_is b _ HB.out).mono ?_
  rintro e w2 ⟨rfl, c2⟩
  rw [EB.out]
  have HW2 : Hid (BoundsAt (w2.alloc (.cells #[.int .i64 l2, .int .i64 f2, .int .i64 s2] 26))) := (HW1.out.below c2).below (below_box _ _)
  have HC2 : Hid (Below w.heap.size w (w2.alloc (.cells #[.int .i64 l2, .int .i64 f2, .int .i64 s2] 26))) := (HC1.out.trans (c2.mono HC1.out.size)).alloc (Nat.le_trans HC1.out.size c2.size) _
  obtain ⟨hg, d0, d1, d2⟩ := hx.below c2
  clear c2 hx
  go_wp2_with fail
  refine (pshares_is a b _ HW2.out HA.out HB.out).mono ?_
  rintro e w3 ⟨rfl, c3⟩
  rw [HS1.out]
  have HW3 : Hid (BoundsAt w3) := HW2.out.below c3
  have HC3 : Hid (Below w.heap.size w w3) := HC2.out.trans (c3.mono HC2.out.size)
  clear c3 d0 d1 d2 hg
  go_wp2_with fail
  refine (pshares_is b a _ HW3.out HB.out HA.out).mono ?_
  rintro e w4 ⟨rfl, c4⟩
  rw [HS2.out]
  have HW4 : Hid (BoundsAt w4) := HW3.out.below c4
  have HC4 : Hid (Below w.heap.size w w4) := HC3.out.trans (c4.mono HC3.out.size)
  clear c4
  go_wp2
  go_ret
  exact ⟨rfl, HC4.out⟩

set_option maxHeartbeats 3200000 in
theorem shares_n3s (a b : Int) (w : World) (hw : BoundsAt w) (ha : I64 a) (hb : I64 b) (h : (ofE a = 0 ∧ ofE b = 0 ∧ ofL a = 0)) (hab : a = b) : Calls Tryd.prog 4 #[.int .i64 a, .int .i64 b] w fun e w' => e = .returned (.bool true) ∧ Below w.heap.size w w' := by
  have HW := Lib.hid hw
  have HA := Lib.hid ha
  have HB := Lib.hid hb
  have hsh : sharesB a b = false := by unfold sharesB; exact shB_no (by omega)
  have hsh2 : sharesB b a = false := (sharesB_comm a b).trans hsh
  have HS1 := Lib.hid hsh
  have HS2 := Lib.hid hsh2
  obtain ⟨a1, a2⟩ := ha
  obtain ⟨b1, b2⟩ := hb
  have sa := of_small a
  have sb := of_small b
  have EA : Hid (ofV a = .tuple #[.agg #[.int .i64 (ofL a), .int .i64 (ofF a), .int .i64 (ofS a)], .int .i64 (ofE a)]) := rfl
  have EB : Hid (ofV b = .tuple #[.agg #[.int .i64 (ofL b), .int .i64 (ofF b), .int .i64 (ofS b)], .int .i64 (ofE b)]) := rfl
  clear hw hsh hsh2
  obtain ⟨l1, hl1⟩ : ∃ x, ofL a = x := ⟨_, rfl⟩
  obtain ⟨f1, hf1⟩ : ∃ x, ofF a = x := ⟨_, rfl⟩
  obtain ⟨s1, hs1⟩ : ∃ x, ofS a = x := ⟨_, rfl⟩
  obtain ⟨e1, he1⟩ : ∃ x, ofE a = x := ⟨_, rfl⟩
  obtain ⟨l2, hl2⟩ : ∃ x, ofL b = x := ⟨_, rfl⟩
  obtain ⟨f2, hf2⟩ : ∃ x, ofF b = x := ⟨_, rfl⟩
  obtain ⟨s2, hs2⟩ : ∃ x, ofS b = x := ⟨_, rfl⟩
  obtain ⟨e2, he2⟩ : ∃ x, ofE b = x := ⟨_, rfl⟩
  rw [hl1, hf1, hs1, he1] at EA sa
  rw [hl2, hf2, hs2, he2] at EB sb
  rw [he1, he2, hl1] at h
  clear he1 he2 hl1 hl2 hf1 hf2 hs1 hs2
  obtain ⟨⟨_, _⟩, ⟨_, _⟩, ⟨_, _⟩, _, _⟩ := sa
  obtain ⟨⟨_, _⟩, ⟨_, _⟩, ⟨_, _⟩, _, _⟩ := sb
  obtain ⟨rfl, rfl, rfl⟩ := h
  subst hab
  go_enter Tryd.func4, Tryd.ntmps4
  go_wp2_with fail
  refine (awake7_true w HW.out).mono ?_
  rintro e w0 ⟨rfl, c0⟩
  have C0 := Lib.hid c0
  have HW0 : Hid (BoundsAt w0) := HW.out.below c0
  clear c0
  go_wp2_with fail
  refine (rof_is a w0 HA.out).mono ?_
  rintro e w1 ⟨rfl, c1⟩
  rw [EA.out]
  have HW1 : Hid (BoundsAt (w1.alloc (.cells #[.int .i64 0, .int .i64 f1, .int .i64 s1] 26))) := (HW0.out.below c1).below (below_box _ _)
  have hx := box3_new w1 (.int .i64 0) (.int .i64 f1) (.int .i64 s1) 26
  have HC1 : Hid (Below w.heap.size w (w1.alloc (.cells #[.int .i64 0, .int .i64 f1, .int .i64 s1] 26))) := (C0.out.trans (c1.mono C0.out.size)).alloc (Nat.le_trans C0.out.size c1.size) _
  clear c1
  go_wp2_with fail
  refine (rof_is a _ HA.out).mono ?_
  rintro e w2 ⟨rfl, c2⟩
  rw [EB.out]
  have HW2 : Hid (BoundsAt (w2.alloc (.cells #[.int .i64 l2, .int .i64 f2, .int .i64 s2] 26))) := (HW1.out.below c2).below (below_box _ _)
  have HC2 : Hid (Below w.heap.size w (w2.alloc (.cells #[.int .i64 l2, .int .i64 f2, .int .i64 s2] 26))) := (HC1.out.trans (c2.mono HC1.out.size)).alloc (Nat.le_trans HC1.out.size c2.size) _
  obtain ⟨hg, d0, d1, d2⟩ := hx.below c2
  clear c2 hx
  go_wp2_with fail
  refine (pshares_is a a _ HW2.out HA.out HA.out).mono ?_
  rintro e w3 ⟨rfl, c3⟩
  rw [HS1.out]
  have HW3 : Hid (BoundsAt w3) := HW2.out.below c3
  have HC3 : Hid (Below w.heap.size w w3) := HC2.out.trans (c3.mono HC2.out.size)
  clear c3 d0 d1 d2 hg
  go_wp2_with fail
  refine (pshares_is a a _ HW3.out HA.out HA.out).mono ?_
  rintro e w4 ⟨rfl, c4⟩
  rw [HS2.out]
  have HW4 : Hid (BoundsAt w4) := HW3.out.below c4
  have HC4 : Hid (Below w.heap.size w w4) := HC3.out.trans (c4.mono HC3.out.size)
  clear c4
  go_wp2
  go_ret
  exact ⟨rfl, HC4.out⟩

set_option maxHeartbeats 3200000 in
theorem shares_n3d (a b : Int) (w : World) (hw : BoundsAt w) (ha : I64 a) (hb : I64 b) (h : (ofE a = 0 ∧ ofE b = 0 ∧ ofL a = 0)) (hab : a ≠ b) : Calls Tryd.prog 4 #[.int .i64 a, .int .i64 b] w fun e w' => e = .returned (.bool true) ∧ Below w.heap.size w w' := by
  have HW := Lib.hid hw
  have HA := Lib.hid ha
  have HB := Lib.hid hb
  have hsh : sharesB a b = false := by unfold sharesB; exact shB_no (by omega)
  have hsh2 : sharesB b a = false := (sharesB_comm a b).trans hsh
  have HS1 := Lib.hid hsh
  have HS2 := Lib.hid hsh2
  obtain ⟨a1, a2⟩ := ha
  obtain ⟨b1, b2⟩ := hb
  have sa := of_small a
  have sb := of_small b
  have EA : Hid (ofV a = .tuple #[.agg #[.int .i64 (ofL a), .int .i64 (ofF a), .int .i64 (ofS a)], .int .i64 (ofE a)]) := rfl
  have EB : Hid (ofV b = .tuple #[.agg #[.int .i64 (ofL b), .int .i64 (ofF b), .int .i64 (ofS b)], .int .i64 (ofE b)]) := rfl
  clear hw hsh hsh2
  obtain ⟨l1, hl1⟩ : ∃ x, ofL a = x := ⟨_, rfl⟩
  obtain ⟨f1, hf1⟩ : ∃ x, ofF a = x := ⟨_, rfl⟩
  obtain ⟨s1, hs1⟩ : ∃ x, ofS a = x := ⟨_, rfl⟩
  obtain ⟨e1, he1⟩ : ∃ x, ofE a = x := ⟨_, rfl⟩
  obtain ⟨l2, hl2⟩ : ∃ x, ofL b = x := ⟨_, rfl⟩
  obtain ⟨f2, hf2⟩ : ∃ x, ofF b = x := ⟨_, rfl⟩
  obtain ⟨s2, hs2⟩ : ∃ x, ofS b = x := ⟨_, rfl⟩
  obtain ⟨e2, he2⟩ : ∃ x, ofE b = x := ⟨_, rfl⟩
  rw [hl1, hf1, hs1, he1] at EA sa
  rw [hl2, hf2, hs2, he2] at EB sb
  rw [he1, he2, hl1] at h
  clear he1 he2 hl1 hl2 hf1 hf2 hs1 hs2
  obtain ⟨⟨_, _⟩, ⟨_, _⟩, ⟨_, _⟩, _, _⟩ := sa
  obtain ⟨⟨_, _⟩, ⟨_, _⟩, ⟨_, _⟩, _, _⟩ := sb
  obtain ⟨rfl, rfl, rfl⟩ := h
  have q5 := bne_true hab
  clear hab
  go_enter Tryd.func4, Tryd.ntmps4
  go_wp2_with fail
  refine (awake7_true w HW.out).mono ?_
  rintro e w0 ⟨rfl, c0⟩
  have C0 := Lib.hid c0
  have HW0 : Hid (BoundsAt w0) := HW.out.below c0
  clear c0
  go_wp2_with fail
  refine (rof_is a w0 HA.out).mono ?_
  rintro e w1 ⟨rfl, c1⟩
  rw [EA.out]
  have HW1 : Hid (BoundsAt (w1.alloc (.cells #[.int .i64 0, .int .i64 f1, .int .i64 s1] 26))) := (HW0.out.below c1).below (below_box _ _)
  have hx := box3_new w1 (.int .i64 0) (.int .i64 f1) (.int .i64 s1) 26
  have HC1 : Hid (Below w.heap.size w (w1.alloc (.cells #[.int .i64 0, .int .i64 f1, .int .i64 s1] 26))) := (C0.out.trans (c1.mono C0.out.size)).alloc (Nat.le_trans C0.out.size c1.size) _
  clear c1
  go_wp2_with fail
  refine (rof_is b _ HB.out).mono ?_
  rintro e w2 ⟨rfl, c2⟩
  rw [EB.out]
  have HW2 : Hid (BoundsAt (w2.alloc (.cells #[.int .i64 l2, .int .i64 f2, .int .i64 s2] 26))) := (HW1.out.below c2).below (below_box _ _)
  have HC2 : Hid (Below w.heap.size w (w2.alloc (.cells #[.int .i64 l2, .int .i64 f2, .int .i64 s2] 26))) := (HC1.out.trans (c2.mono HC1.out.size)).alloc (Nat.le_trans HC1.out.size c2.size) _
  obtain ⟨hg, d0, d1, d2⟩ := hx.below c2
  clear c2 hx
  go_wp2_with fail
  refine (pshares_is a b _ HW2.out HA.out HB.out).mono ?_
  rintro e w3 ⟨rfl, c3⟩
  rw [HS1.out]
  have HW3 : Hid (BoundsAt w3) := HW2.out.below c3
  have HC3 : Hid (Below w.heap.size w w3) := HC2.out.trans (c3.mono HC2.out.size)
  clear c3 d0 d1 d2 hg
  go_wp2_with fail
  refine (pshares_is b a _ HW3.out HB.out HA.out).mono ?_
  rintro e w4 ⟨rfl, c4⟩
  rw [HS2.out]
  have HW4 : Hid (BoundsAt w4) := HW3.out.below c4
  have HC4 : Hid (Below w.heap.size w w4) := HC3.out.trans (c4.mono HC3.out.size)
  clear c4
  go_wp2
  go_ret
  exact ⟨rfl, HC4.out⟩

set_option maxHeartbeats 3200000 in
theorem shares_n4d (a b : Int) (w : World) (hw : BoundsAt w) (ha : I64 a) (hb : I64 b) (h : (ofE a = 0 ∧ ofE b = 0 ∧ ofL a ≠ 0 ∧ ofL a ≠ ofL b)) (hab : a ≠ b) : Calls Tryd.prog 4 #[.int .i64 a, .int .i64 b] w fun e w' => e = .returned (.bool true) ∧ Below w.heap.size w w' := by
  have HW := Lib.hid hw
  have HA := Lib.hid ha
  have HB := Lib.hid hb
  have hsh : sharesB a b = false := by unfold sharesB; exact shB_no (by omega)
  have hsh2 : sharesB b a = false := (sharesB_comm a b).trans hsh
  have HS1 := Lib.hid hsh
  have HS2 := Lib.hid hsh2
  obtain ⟨a1, a2⟩ := ha
  obtain ⟨b1, b2⟩ := hb
  have sa := of_small a
  have sb := of_small b
  have EA : Hid (ofV a = .tuple #[.agg #[.int .i64 (ofL a), .int .i64 (ofF a), .int .i64 (ofS a)], .int .i64 (ofE a)]) := rfl
  have EB : Hid (ofV b = .tuple #[.agg #[.int .i64 (ofL b), .int .i64 (ofF b), .int .i64 (ofS b)], .int .i64 (ofE b)]) := rfl
  clear hw hsh hsh2
  obtain ⟨l1, hl1⟩ : ∃ x, ofL a = x := ⟨_, rfl⟩
  obtain ⟨f1, hf1⟩ : ∃ x, ofF a = x := ⟨_, rfl⟩
  obtain ⟨s1, hs1⟩ : ∃ x, ofS a = x := ⟨_, rfl⟩
  obtain ⟨e1, he1⟩ : ∃ x, ofE a = x := ⟨_, rfl⟩
  obtain ⟨l2, hl2⟩ : ∃ x, ofL b = x := ⟨_, rfl⟩
  obtain ⟨f2, hf2⟩ : ∃ x, ofF b = x := ⟨_, rfl⟩
  obtain ⟨s2, hs2⟩ : ∃ x, ofS b = x := ⟨_, rfl⟩
  obtain ⟨e2, he2⟩ : ∃ x, ofE b = x := ⟨_, rfl⟩
  rw [hl1, hf1, hs1, he1] at EA sa
  rw [hl2, hf2, hs2, he2] at EB sb
  rw [he1, he2, hl1, hl2] at h
  clear he1 he2 hl1 hl2 hf1 hf2 hs1 hs2
  obtain ⟨⟨_, _⟩, ⟨_, _⟩, ⟨_, _⟩, _, _⟩ := sa
  obtain ⟨⟨_, _⟩, ⟨_, _⟩, ⟨_, _⟩, _, _⟩ := sb
  obtain ⟨rfl, rfl, h, h2⟩ := h
  obtain ⟨q1, q2⟩ := eq0 h
  have q3 := eqx h2
  have q4 : 0 < l1 := by omega
  clear h h2
  have q5 := bne_true hab
  clear hab
  go_enter Tryd.func4, Tryd.ntmps4
  go_wp2_with fail
  refine (awake7_true w HW.out).mono ?_
  rintro e w0 ⟨rfl, c0⟩
  have C0 := Lib.hid c0
  have HW0 : Hid (BoundsAt w0) := HW.out.below c0
  clear c0
  go_wp2_with fail
  refine (rof_is a w0 HA.out).mono ?_
  rintro e w1 ⟨rfl, c1⟩
  rw [EA.out]
  have HW1 : Hid (BoundsAt (w1.alloc (.cells #[.int .i64 l1, .int .i64 f1, .int .i64 s1] 26))) := (HW0.out.below c1).below (below_box _ _)
  have hx := box3_new w1 (.int .i64 l1) (.int .i64 f1) (.int .i64 s1) 26
  have HC1 : Hid (Below w.heap.size w (w1.alloc (.cells #[.int .i64 l1, .int .i64 f1, .int .i64 s1] 26))) := (C0.out.trans (c1.mono C0.out.size)).alloc (Nat.le_trans C0.out.size c1.size) _
  clear c1
  go_wp2_with fail
  refine (rof_is b _ HB.out).mono ?_
  rintro e w2 ⟨rfl, c2⟩
  rw [EB.out]
  have HW2 : Hid (BoundsAt (w2.alloc (.cells #[.int .i64 l2, .int .i64 f2, .int .i64 s2] 26))) := (HW1.out.below c2).below (below_box _ _)
  have HC2 : Hid (Below w.heap.size w (w2.alloc (.cells #[.int .i64 l2, .int .i64 f2, .int .i64 s2] 26))) := (HC1.out.trans (c2.mono HC1.out.size)).alloc (Nat.le_trans HC1.out.size c2.size) _
  obtain ⟨hg, d0, d1, d2⟩ := hx.below c2
  clear c2 hx
  go_wp2_with fail
  refine (pshares_is a b _ HW2.out HA.out HB.out).mono ?_
  rintro e w3 ⟨rfl, c3⟩
  rw [HS1.out]
  have HW3 : Hid (BoundsAt w3) := HW2.out.below c3
  have HC3 : Hid (Below w.heap.size w w3) := HC2.out.trans (c3.mono HC2.out.size)
  clear c3 d0 d1 d2 hg
  go_wp2_with fail
  refine (pshares_is b a _ HW3.out HB.out HA.out).mono ?_
  rintro e w4 ⟨rfl, c4⟩
  rw [HS2.out]
  have HW4 : Hid (BoundsAt w4) := HW3.out.below c4
  have HC4 : Hid (Below w.heap.size w w4) := HC3.out.trans (c4.mono HC3.out.size)
  clear c4
  go_wp2
  go_ret
  exact ⟨rfl, HC4.out⟩

set_option maxHeartbeats 3200000 in
theorem shares_n5d (a b : Int) (w : World) (hw : BoundsAt w) (ha : I64 a) (hb : I64 b) (h : (ofE a = 0 ∧ ofE b = 0 ∧ ofL a ≠ 0 ∧ ofL a = ofL b ∧ ofF a ≠ ofF b)) (hab : a ≠ b) : Calls Tryd.prog 4 #[.int .i64 a, .int .i64 b] w fun e w' => e = .returned (.bool true) ∧ Below w.heap.size w w' := by
  have HW := Lib.hid hw
  have HA := Lib.hid ha
  have HB := Lib.hid hb
  have hsh : sharesB a b = false := by unfold sharesB; exact shB_no (by omega)
  have hsh2 : sharesB b a = false := (sharesB_comm a b).trans hsh
  have HS1 := Lib.hid hsh
  have HS2 := Lib.hid hsh2
  obtain ⟨a1, a2⟩ := ha
  obtain ⟨b1, b2⟩ := hb
  have sa := of_small a
  have sb := of_small b
  have EA : Hid (ofV a = .tuple #[.agg #[.int .i64 (ofL a), .int .i64 (ofF a), .int .i64 (ofS a)], .int .i64 (ofE a)]) := rfl
  have EB : Hid (ofV b = .tuple #[.agg #[.int .i64 (ofL b), .int .i64 (ofF b), .int .i64 (ofS b)], .int .i64 (ofE b)]) := rfl
  clear hw hsh hsh2
  obtain ⟨l1, hl1⟩ : ∃ x, ofL a = x := ⟨_, rfl⟩
  obtain ⟨f1, hf1⟩ : ∃ x, ofF a = x := ⟨_, rfl⟩
  obtain ⟨s1, hs1⟩ : ∃ x, ofS a = x := ⟨_, rfl⟩
  obtain ⟨e1, he1⟩ : ∃ x, ofE a = x := ⟨_, rfl⟩
  obtain ⟨l2, hl2⟩ : ∃ x, ofL b = x := ⟨_, rfl⟩
  obtain ⟨f2, hf2⟩ : ∃ x, ofF b = x := ⟨_, rfl⟩
  obtain ⟨s2, hs2⟩ : ∃ x, ofS b = x := ⟨_, rfl⟩
  obtain ⟨e2, he2⟩ : ∃ x, ofE b = x := ⟨_, rfl⟩
  rw [hl1, hf1, hs1, he1] at EA sa
  rw [hl2, hf2, hs2, he2] at EB sb
  rw [he1, he2, hl1, hl2, hf1, hf2] at h
  clear he1 he2 hl1 hl2 hf1 hf2 hs1 hs2
  obtain ⟨⟨_, _⟩, ⟨_, _⟩, ⟨_, _⟩, _, _⟩ := sa
  obtain ⟨⟨_, _⟩, ⟨_, _⟩, ⟨_, _⟩, _, _⟩ := sb
  obtain ⟨rfl, rfl, h, rfl, h2⟩ := h
  obtain ⟨q1, q2⟩ := eq0 h
  have q3 := eqx h2
  have q4 : 0 < l1 := by omega
  clear h h2
  have q5 := bne_true hab
  clear hab
  go_enter Tryd.func4, Tryd.ntmps4
  go_wp2_with fail
  refine (awake7_true w HW.out).mono ?_
  rintro e w0 ⟨rfl, c0⟩
  have C0 := Lib.hid c0
  have HW0 : Hid (BoundsAt w0) := HW.out.below c0
  clear c0
  go_wp2_with fail
  refine (rof_is a w0 HA.out).mono ?_
  rintro e w1 ⟨rfl, c1⟩
  rw [EA.out]
  have HW1 : Hid (BoundsAt (w1.alloc (.cells #[.int .i64 l1, .int .i64 f1, .int .i64 s1] 26))) := (HW0.out.below c1).below (below_box _ _)
  have hx := box3_new w1 (.int .i64 l1) (.int .i64 f1) (.int .i64 s1) 26
  have HC1 : Hid (Below w.heap.size w (w1.alloc (.cells #[.int .i64 l1, .int .i64 f1, .int .i64 s1] 26))) := (C0.out.trans (c1.mono C0.out.size)).alloc (Nat.le_trans C0.out.size c1.size) _
  clear c1
  go_wp2_with fail
  refine (rof_is b _ HB.out).mono ?_
  rintro e w2 ⟨rfl, c2⟩
  rw [EB.out]
  have HW2 : Hid (BoundsAt (w2.alloc (.cells #[.int .i64 l1, .int .i64 f2, .int .i64 s2] 26))) := (HW1.out.below c2).below (below_box _ _)
  have HC2 : Hid (Below w.heap.size w (w2.alloc (.cells #[.int .i64 l1, .int .i64 f2, .int .i64 s2] 26))) := (HC1.out.trans (c2.mono HC1.out.size)).alloc (Nat.le_trans HC1.out.size c2.size) _
  obtain ⟨hg, d0, d1, d2⟩ := hx.below c2
  clear c2 hx
  go_wp2_with fail
  refine (pshares_is a b _ HW2.out HA.out HB.out).mono ?_
  rintro e w3 ⟨rfl, c3⟩
  rw [HS1.out]
  have HW3 : Hid (BoundsAt w3) := HW2.out.below c3
  have HC3 : Hid (Below w.heap.size w w3) := HC2.out.trans (c3.mono HC2.out.size)
  clear c3 d0 d1 d2 hg
  go_wp2_with fail
  refine (pshares_is b a _ HW3.out HB.out HA.out).mono ?_
  rintro e w4 ⟨rfl, c4⟩
  rw [HS2.out]
  have HW4 : Hid (BoundsAt w4) := HW3.out.below c4
  have HC4 : Hid (Below w.heap.size w w4) := HC3.out.trans (c4.mono HC3.out.size)
  clear c4
  go_wp2
  go_ret
  exact ⟨rfl, HC4.out⟩

set_option maxHeartbeats 3200000 in
theorem shares_ys (a b : Int) (w : World) (hw : BoundsAt w) (ha : I64 a) (hb : I64 b) (h : (ofE a = 0 ∧ ofE b = 0 ∧ ofL a ≠ 0 ∧ ofL a = ofL b ∧ ofF a = ofF b)) (hab : a = b) : Calls Tryd.prog 4 #[.int .i64 a, .int .i64 b] w fun e w' => e = .returned (.bool true) ∧ Below w.heap.size w w' := by
  have HW := Lib.hid hw
  have HA := Lib.hid ha
  have HB := Lib.hid hb
  have hsh : sharesB a b = true := by unfold sharesB; exact shB_yes (by have := of_small a; omega)
  have hsh2 : sharesB b a = true := (sharesB_comm a b).trans hsh
  have HS1 := Lib.hid hsh
  have HS2 := Lib.hid hsh2
  obtain ⟨a1, a2⟩ := ha
  obtain ⟨b1, b2⟩ := hb
  have sa := of_small a
  have sb := of_small b
  have EA : Hid (ofV a = .tuple #[.agg #[.int .i64 (ofL a), .int .i64 (ofF a), .int .i64 (ofS a)], .int .i64 (ofE a)]) := rfl
  have EB : Hid (ofV b = .tuple #[.agg #[.int .i64 (ofL b), .int .i64 (ofF b), .int .i64 (ofS b)], .int .i64 (ofE b)]) := rfl
  clear hw hsh hsh2
  obtain ⟨l1, hl1⟩ : ∃ x, ofL a = x := ⟨_, rfl⟩
  obtain ⟨f1, hf1⟩ : ∃ x, ofF a = x := ⟨_, rfl⟩
  obtain ⟨s1, hs1⟩ : ∃ x, ofS a = x := ⟨_, rfl⟩
  obtain ⟨e1, he1⟩ : ∃ x, ofE a = x := ⟨_, rfl⟩
  obtain ⟨l2, hl2⟩ : ∃ x, ofL b = x := ⟨_, rfl⟩
  obtain ⟨f2, hf2⟩ : ∃ x, ofF b = x := ⟨_, rfl⟩
  obtain ⟨s2, hs2⟩ : ∃ x, ofS b = x := ⟨_, rfl⟩
  obtain ⟨e2, he2⟩ : ∃ x, ofE b = x := ⟨_, rfl⟩
  rw [hl1, hf1, hs1, he1] at EA sa
  rw [hl2, hf2, hs2, he2] at EB sb
  rw [he1, he2, hl1, hl2, hf1, hf2] at h
  clear he1 he2 hl1 hl2 hf1 hf2 hs1 hs2
  obtain ⟨⟨_, _⟩, ⟨_, _⟩, ⟨_, _⟩, _, _⟩ := sa
  obtain ⟨⟨_, _⟩, ⟨_, _⟩, ⟨_, _⟩, _, _⟩ := sb
  obtain ⟨rfl, rfl, h, rfl, rfl⟩ := h
  obtain ⟨q1, q2⟩ := eq0 h
  have q4 : 0 < l1 := by omega
  clear h
  subst hab
  go_enter Tryd.func4, Tryd.ntmps4
  go_wp2_with fail
  refine (awake7_true w HW.out).mono ?_
  rintro e w0 ⟨rfl, c0⟩
  have C0 := Lib.hid c0
  have HW0 : Hid (BoundsAt w0) := HW.out.below c0
  clear c0
  go_wp2_with fail
  refine (rof_is a w0 HA.out).mono ?_
  rintro e w1 ⟨rfl, c1⟩
  rw [EA.out]
  have HW1 : Hid (BoundsAt (w1.alloc (.cells #[.int .i64 l1, .int .i64 f1, .int .i64 s1] 26))) := (HW0.out.below c1).below (below_box _ _)
  have hx := box3_new w1 (.int .i64 l1) (.int .i64 f1) (.int .i64 s1) 26
  have HC1 : Hid (Below w.heap.size w (w1.alloc (.cells #[.int .i64 l1, .int .i64 f1, .int .i64 s1] 26))) := (C0.out.trans (c1.mono C0.out.size)).alloc (Nat.le_trans C0.out.size c1.size) _
  clear c1
  go_wp2_with fail
  refine (rof_is a _ HA.out).mono ?_
  rintro e w2 ⟨rfl, c2⟩
  rw [EB.out]
  have HW2 : Hid (BoundsAt (w2.alloc (.cells #[.int .i64 l1, .int .i64 f1, .int .i64 s2] 26))) := (HW1.out.below c2).below (below_box _ _)
  have HC2 : Hid (Below w.heap.size w (w2.alloc (.cells #[.int .i64 l1, .int .i64 f1, .int .i64 s2] 26))) := (HC1.out.trans (c2.mono HC1.out.size)).alloc (Nat.le_trans HC1.out.size c2.size) _
  obtain ⟨hg, d0, d1, d2⟩ := hx.below c2
  clear c2 hx
  go_wp2_with fail
  refine (pshares_is a a _ HW2.out HA.out HA.out).mono ?_
  rintro e w3 ⟨rfl, c3⟩
  rw [HS1.out]
  have HW3 : Hid (BoundsAt w3) := HW2.out.below c3
  have HC3 : Hid (Below w.heap.size w w3) := HC2.out.trans (c3.mono HC2.out.size)
  clear c3 d0 d1 d2 hg
  go_wp2_with fail
  refine (pshares_is a a _ HW3.out HA.out HA.out).mono ?_
  rintro e w4 ⟨rfl, c4⟩
  rw [HS2.out]
  have HW4 : Hid (BoundsAt w4) := HW3.out.below c4
  have HC4 : Hid (Below w.heap.size w w4) := HC3.out.trans (c4.mono HC3.out.size)
  clear c4
  go_wp2
  go_ret
  exact ⟨rfl, HC4.out⟩

set_option maxHeartbeats 3200000 in
theorem shares_yd (a b : Int) (w : World) (hw : BoundsAt w) (ha : I64 a) (hb : I64 b) (h : (ofE a = 0 ∧ ofE b = 0 ∧ ofL a ≠ 0 ∧ ofL a = ofL b ∧ ofF a = ofF b)) (hab : a ≠ b) : Calls Tryd.prog 4 #[.int .i64 a, .int .i64 b] w fun e w' => e = .returned (.bool true) ∧ Below w.heap.size w w' := by
  have HW := Lib.hid hw
  have HA := Lib.hid ha
  have HB := Lib.hid hb
  have HCT := Lib.hid (costL_two (ofE_zero h.1) (ofE_zero h.2.1) hab (by have := of_small a; omega) h.2.2.2.1 h.2.2.2.2)
  have hcl := costL_le [a]
  obtain ⟨ca, hca⟩ : ∃ ca, costL [a] = ca := ⟨_, rfl⟩
  rw [hca] at HCT hcl
  have HCA := Lib.hid hca
  clear hca
  have hcl2 : ca ≤ 4 := by simpa using hcl
  clear hcl
  have hsh : sharesB a b = true := by unfold sharesB; exact shB_yes (by have := of_small a; omega)
  have hsh2 : sharesB b a = true := (sharesB_comm a b).trans hsh
  have HS1 := Lib.hid hsh
  have HS2 := Lib.hid hsh2
  obtain ⟨a1, a2⟩ := ha
  obtain ⟨b1, b2⟩ := hb
  have sa := of_small a
  have sb := of_small b
  have EA : Hid (ofV a = .tuple #[.agg #[.int .i64 (ofL a), .int .i64 (ofF a), .int .i64 (ofS a)], .int .i64 (ofE a)]) := rfl
  have EB : Hid (ofV b = .tuple #[.agg #[.int .i64 (ofL b), .int .i64 (ofF b), .int .i64 (ofS b)], .int .i64 (ofE b)]) := rfl
  clear hw hsh hsh2
  obtain ⟨l1, hl1⟩ : ∃ x, ofL a = x := ⟨_, rfl⟩
  obtain ⟨f1, hf1⟩ : ∃ x, ofF a = x := ⟨_, rfl⟩
  obtain ⟨s1, hs1⟩ : ∃ x, ofS a = x := ⟨_, rfl⟩
  obtain ⟨e1, he1⟩ : ∃ x, ofE a = x := ⟨_, rfl⟩
  obtain ⟨l2, hl2⟩ : ∃ x, ofL b = x := ⟨_, rfl⟩
  obtain ⟨f2, hf2⟩ : ∃ x, ofF b = x := ⟨_, rfl⟩
  obtain ⟨s2, hs2⟩ : ∃ x, ofS b = x := ⟨_, rfl⟩
  obtain ⟨e2, he2⟩ : ∃ x, ofE b = x := ⟨_, rfl⟩
  rw [hl1, hf1, hs1, he1] at EA sa
  rw [hl2, hf2, hs2, he2] at EB sb
  rw [he1, he2, hl1, hl2, hf1, hf2] at h
  clear he1 he2 hl1 hl2 hf1 hf2 hs1 hs2
  obtain ⟨⟨_, _⟩, ⟨_, _⟩, ⟨_, _⟩, _, _⟩ := sa
  obtain ⟨⟨_, _⟩, ⟨_, _⟩, ⟨_, _⟩, _, _⟩ := sb
  obtain ⟨rfl, rfl, h, rfl, rfl⟩ := h
  obtain ⟨q1, q2⟩ := eq0 h
  have q4 : 0 < l1 := by omega
  clear h
  have q5 := bne_true hab
  clear hab
  go_enter Tryd.func4, Tryd.ntmps4
  go_wp2_with fail
  refine (awake7_true w HW.out).mono ?_
  rintro e w0 ⟨rfl, c0⟩
  have C0 := Lib.hid c0
  have HW0 : Hid (BoundsAt w0) := HW.out.below c0
  clear c0
  go_wp2_with fail
  refine (rof_is a w0 HA.out).mono ?_
  rintro e w1 ⟨rfl, c1⟩
  rw [EA.out]
  have HW1 : Hid (BoundsAt (w1.alloc (.cells #[.int .i64 l1, .int .i64 f1, .int .i64 s1] 26))) := (HW0.out.below c1).below (below_box _ _)
  have hx := box3_new w1 (.int .i64 l1) (.int .i64 f1) (.int .i64 s1) 26
  have HC1 : Hid (Below w.heap.size w (w1.alloc (.cells #[.int .i64 l1, .int .i64 f1, .int .i64 s1] 26))) := (C0.out.trans (c1.mono C0.out.size)).alloc (Nat.le_trans C0.out.size c1.size) _
  clear c1
  go_wp2_with fail
  refine (rof_is b _ HB.out).mono ?_
  rintro e w2 ⟨rfl, c2⟩
  rw [EB.out]
  have HW2 : Hid (BoundsAt (w2.alloc (.cells #[.int .i64 l1, .int .i64 f1, .int .i64 s2] 26))) := (HW1.out.below c2).below (below_box _ _)
  have HC2 : Hid (Below w.heap.size w (w2.alloc (.cells #[.int .i64 l1, .int .i64 f1, .int .i64 s2] 26))) := (HC1.out.trans (c2.mono HC1.out.size)).alloc (Nat.le_trans HC1.out.size c2.size) _
  obtain ⟨hg, d0, d1, d2⟩ := hx.below c2
  clear c2 hx
  go_wp2_with fail
  refine (pshares_is a b _ HW2.out HA.out HB.out).mono ?_
  rintro e w3 ⟨rfl, c3⟩
  rw [HS1.out]
  have HW3 : Hid (BoundsAt w3) := HW2.out.below c3
  have HC3 : Hid (Below w.heap.size w w3) := HC2.out.trans (c3.mono HC2.out.size)
  clear c3 d0 d1 d2 hg
  go_wp2_with fail
  refine (pshares_is b a _ HW3.out HB.out HA.out).mono ?_
  rintro e w4 ⟨rfl, c4⟩
  rw [HS2.out]
  have HW4 : Hid (BoundsAt w4) := HW3.out.below c4
  have HC4 : Hid (Below w.heap.size w w4) := HC3.out.trans (c4.mono HC3.out.size)
  clear c4
  have HR1 : Hid (ReadsI (w4.alloc (.cells #[.int .i64 a, .int .i64 b] 3)) (some ⟨w4.heap.size, 0, none⟩) 2 [a, b]) := reads_lit w4 [a, b]
  go_wp2_with fail
  refine (cost_is [a, b] _ 2 2 _ (HW4.out.below (below_box _ _)) HR1.out (by intro x hx; simp at hx; rcases hx with rfl | rfl; exact HA.out; exact HB.out) (by decide)).mono ?_
  rintro e w5 ⟨rfl, c5⟩
  rw [HCT.out]
  have HW5 : Hid (BoundsAt w5) := (HW4.out.below (below_box _ _)).below c5
  have hc5 : Below w.heap.size w (w4.alloc (.cells #[.int .i64 a, .int .i64 b] 3)) := HC4.out.alloc HC4.out.size _
  have HC5 : Hid (Below w.heap.size w w5) := hc5.trans (c5.mono hc5.size)
  clear c5 hc5
  have HR2 : Hid (ReadsI (w5.alloc (.cells #[.int .i64 a] 3)) (some ⟨w5.heap.size, 0, none⟩) 1 [a]) := reads_lit w5 [a]
  go_wp2_with fail
  refine (cost_is [a] _ 1 1 _ (HW5.out.below (below_box _ _)) HR2.out (by intro x hx; simp at hx; subst hx; exact HA.out) (by decide)).mono ?_
  rintro e w6 ⟨rfl, c6⟩
  rw [HCA.out]
  have hc6 : Below w.heap.size w (w5.alloc (.cells #[.int .i64 a] 3)) := HC5.out.alloc HC5.out.size _
  have HC6 : Hid (Below w.heap.size w w6) := hc6.trans (c6.mono hc6.size)
  clear c6 hc6
  go_wp2
  go_ret
  exact ⟨by simp, HC6.out⟩

theorem ptrShares_walk (a b : Int) (w : World) (hw : BoundsAt w) (ha : I64 a) (hb : I64 b) : Calls Tryd.prog 4 #[.int .i64 a, .int .i64 b] w fun e w' => e = .returned (.bool true) ∧ Below w.heap.size w w' := by
  by_cases hab : a = b
  · by_cases h1 : ofE a = 0
    · have h2 : ofE b = 0 := hab ▸ h1
      by_cases h3 : ofL a = 0
      · exact shares_n3s a b w hw ha hb ⟨h1, h2, h3⟩ hab
      · exact shares_ys a b w hw ha hb ⟨h1, h2, h3, by rw [hab], by rw [hab]⟩ hab
    · exact shares_n1s a b w hw ha hb h1 hab
  · by_cases h1 : ofE a = 0
    · by_cases h2 : ofE b = 0
      · by_cases h3 : ofL a = 0
        · exact shares_n3d a b w hw ha hb ⟨h1, h2, h3⟩ hab
        · by_cases h4 : ofL a = ofL b
          · by_cases h5 : ofF a = ofF b
            · exact shares_yd a b w hw ha hb ⟨h1, h2, h3, h4, h5⟩ hab
            · exact shares_n5d a b w hw ha hb ⟨h1, h2, h3, h4, h5⟩ hab
          · exact shares_n4d a b w hw ha hb ⟨h1, h2, h3, h4⟩ hab
      · exact shares_n2d a b w hw ha hb ⟨h1, h2⟩ hab
    · exact shares_n1d a b w hw ha hb h1 hab
theorem ptrShares_met (os : Os) (args : Array Value) : laidMetH Tryd.prog [("drumlin/ptr.bounds", Rows.laid_drumlin_ptr_bounds)] ((World.doorLaid Tryd.prog 400 os).forCall (fun _ _ => 0) ⟨#[], args, []⟩).memory :=
  laidMetH_of_parts3 (fuel := 8) (laidMet_of_run' 8 (by kernel_rfl) (by kernel_rfl)) (by kernel_rfl) (by kernel_rfl)
set_option maxRecDepth 100000 in
theorem ptrShares_lifted (os : Os) (started : os.Started) (H : Type) (enc : TypeId × Value → H) :
    ReturnsInHanded {} Tryd.checked os 4 .any (fun w args => (Rows.ptrSharesSpec.pre enc Tryd.prog Tryd.f4 [] false w args ∧ laidMetH Tryd.prog [("drumlin/ptr.bounds", Rows.laid_drumlin_ptr_bounds)] w) ∧ sizedMet enc Tryd.prog Tryd.f4 (OpenSpec.ofChange Rows.ptrSharesSpec) false w args) (Rows.ptrSharesSpec.post enc Tryd.prog Tryd.f4 false true false false) :=
  law_laid (s := Rows.ptrSharesSpec) started Tryd.func4 (by kernel_rfl) rfl (fun ds hd => by
        match ds, hd with
        | [_, _], _ => rfl) rfl
      (of_decide_eq_true (by kernel_rfl))
      (ChangeSpec.witness_shaped (enc := enc) (C := Tryd.checked) (os := os) (X := fun w _ => laidMetH Tryd.prog [("drumlin/ptr.bounds", Rows.laid_drumlin_ptr_bounds)] w) false (World.doorLaid Tryd.prog 400 os) #[.int .i64 0, .int .i64 0] 8 rfl (World.shaped_of_RefB (by kernel_rfl) (by kernel_rfl)) (by kernel_rfl) (by kernel_rfl) (by kernel_rfl) (ptrShares_met os _))
      (fun W base args ds ps hval hA hsz hL => by
        rw [Tryd.params4] at hA hval hsz
        obtain ⟨v0, vs0, d0, ds0, p0, q0, hargs, rfl, rfl, h0, r0⟩ := trodAll_cons hA
        obtain ⟨v1, vs1, d1, ds1, p1, q1, rfl, rfl, rfl, h1, r1⟩ := trodAll_cons r0
        obtain ⟨rfl, rfl, rfl⟩ := trodAll_nil r1
        obtain rfl : args = #[v0, v1] := by cases args; simp_all
        simp only [DataW.weightsEach, List.all_append, Bool.and_eq_true] at hsz
        obtain ⟨z0, z1, _⟩ := hsz
        obtain ⟨s, rfl, rfl, rfl, wf⟩ := open_int Tryd.underlying3 (hval 0 3 v0 rfl rfl) h0
        obtain ⟨s2, rfl, rfl, rfl, wf2⟩ := open_int Tryd.underlying3 (hval 1 3 v1 rfl rfl) h1
        exact ptrShares_walk s s2 W (bounds_of_laid hL) (i64_of_wf wf) (i64_of_wf wf2))

theorem ptrShares_holds : Rows.PtrSharesSaid :=
  OpenClaim.holds_of_wide 4 Tryd.f4 rfl rfl rfl rfl rfl rfl rfl ⟨rfl, rfl, rfl, rfl, rfl⟩ rfl rfl rfl rfl rfl (by kernel_rfl) Tryd.func4 (by kernel_rfl)
    (of_decide_eq_true (by kernel_rfl)) (by unfold Func.isWrapper; first | (rw [if_pos (by decide +kernel)]; kernel_rfl) | (rw [if_neg (by decide +kernel)]; exact ⟨rfl, rfl⟩))
    (fun os started H enc _ => ptrShares_lifted os started H enc)
/-- The tied card. -/
theorem ptrShares_card : Rows.PtrSharesCardSaid :=
  Claim7.holds_tied_plain_at .later [] [.data] true Rows.ptrSharesCard.stood.harness false
    ptrShares_holds (fun _ h => by cases h) (by kernel_rfl) (fun _ h => by cases h) ptrShares_row_tie rfl ⟨rfl, rfl⟩ (by kernel_rfl) rfl
    (fun f fn hf hfn => by
      obtain rfl : f = 4 := Option.some.inj ((show Tryd.prog.funcNamed "drumlin/drumlinlaw07.PtrShares" = some 4 by kernel_rfl).symm.trans hf) |>.symm
      obtain rfl : fn = Tryd.f4 := (Option.some.inj (Tryd.func4.symm.trans hfn)).symm
      exact ⟨by kernel_rfl, fun j t ht => by
        rw [Tryd.params4] at ht
        have hm : t ∈ [3, 3] := by simpa using Array.mem_of_getElem? ht
        have hall : ([3, 3].all fun u => !Tryd.prog.wantsStandIn u) = true := by kernel_rfl
        exact (show Tryd.prog.wantsStandIn t = false by simpa using List.all_eq_true.1 hall t hm)⟩)
    (by kernel_rfl)
#print axioms ptrShares_card
end Go.Proofs.YthipeaighngpfaaDoor
