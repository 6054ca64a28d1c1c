/- Where blocks hang, and what they need: the numbers. -/
import Derived.Test.YtcpbffmffoneeaaDoorMath
namespace Go.Proofs.YtcpbffmffoneeaaDoor
set_option linter.unusedVariables false

/-- Is there a block of this index? -/
def blkB (i : Int) : Bool := decide (0 ≤ i) && decide (i < 1064)
def ofL (i : Int) : Int := if blkB i then (if i < 8 then 0 else if i < 40 then 1 else 2) else 0
def ofF (i : Int) : Int := if blkB i then (if i < 40 then 0 else (i - 40) / 32) else 0
def ofS (i : Int) : Int := if blkB i then (if i < 8 then i else if i < 40 then i - 8 else (i - 40) % 32) else 0
def ofE (i : Int) : Int := if i < 0 then 1 else if 1064 ≤ i then 12 else 0
theorem isB_iff {i : Int} : blkB i = true ↔ 0 ≤ i ∧ i < 1064 := by unfold blkB; simp
theorem isB_no {i : Int} (h : ¬ (0 ≤ i ∧ i < 1064)) : blkB i = false := by
  cases e : blkB i with
  | true => exact absurd (isB_iff.1 e) h
  | false => rfl
theorem ofE_yes {i : Int} (h : blkB i = true) : ofE i = 0 := by
  have := isB_iff.1 h
  unfold ofE; rw [if_neg (by omega), if_neg (by omega)]
theorem ofE_no {i : Int} (h : blkB i = false) : ofE i = 1 ∨ ofE i = 12 := by
  unfold ofE
  by_cases h1 : i < 0
  · left; rw [if_pos h1]
  · right
    have : ¬ (0 ≤ i ∧ i < 1064) := fun hh => by have := isB_iff.2 hh; rw [h] at this; cases this
    rw [if_neg h1, if_pos (by omega)]
theorem of_small (i : Int) : (0 ≤ ofL i ∧ ofL i ≤ 2) ∧ (0 ≤ ofF i ∧ ofF i ≤ 31) ∧ (0 ≤ ofS i ∧ ofS i ≤ 31) ∧ (0 ≤ ofE i ∧ ofE i ≤ 12) := by
  unfold ofL ofF ofS ofE
  cases h : blkB i with
  | true =>
    have := isB_iff.1 h
    simp only [if_true]
    refine ⟨?_, ?_, ?_, ?_⟩ <;> (repeat' split) <;> omega
  | false =>
    simp only [Bool.false_eq_true, if_false]
    refine ⟨by omega, by omega, by omega, ?_⟩
    (repeat' split) <;> omega
/-- The index of a place. -/
def indexI (l f s : Int) : Int := (if l = 0 then 0 else if l = 1 then 8 else 40) + f * 32 + s
theorem index_of {i : Int} (h : blkB i = true) : indexI (ofL i) (ofF i) (ofS i) = i := by
  have := isB_iff.1 h
  unfold indexI ofL ofF ofS
  rw [h]
  simp only [if_true]
  by_cases h1 : i < 8
  · simp [h1]; omega
  · by_cases h2 : i < 40
    · simp [h1, h2]; omega
    · simp [h1, h2]; omega
/-- Is there such a place? -/
def isP (l f s : Int) : Prop := (l = 0 ∧ f = 0 ∧ 0 ≤ s ∧ s < 8) ∨ (l = 1 ∧ f = 0 ∧ 0 ≤ s ∧ s < 32) ∨ (l = 2 ∧ 0 ≤ f ∧ f < 32 ∧ 0 ≤ s ∧ s < 32)
instance isP_dec (l f s : Int) : Decidable (isP l f s) := by unfold isP; infer_instance
theorem isP_of {i : Int} (h : blkB i = true) : isP (ofL i) (ofF i) (ofS i) := by
  have := isB_iff.1 h
  unfold isP ofL ofF ofS
  rw [h]
  simp only [if_true]
  by_cases h1 : i < 8
  · left; simp [h1]; omega
  · by_cases h2 : i < 40
    · right; left; simp [h1, h2]; omega
    · right; right; simp [h1, h2]; omega
theorem of_index {l f s : Int} (h : isP l f s) : blkB (indexI l f s) = true ∧ ofL (indexI l f s) = l ∧ ofF (indexI l f s) = f ∧ ofS (indexI l f s) = s := by
  rcases h with ⟨rfl, rfl, h1, h2⟩ | ⟨rfl, rfl, h1, h2⟩ | ⟨rfl, h0, h00, h1, h2⟩
  · have e : indexI 0 0 s = s := by unfold indexI; simp
    have hb : blkB s = true := isB_iff.2 (by omega)
    rw [e]; unfold ofL ofF ofS; rw [hb]
    have : s < 8 := h2
    simp [this]; omega
  · have e : indexI 1 0 s = s + 8 := by unfold indexI; simp; omega
    have hb : blkB (s + 8) = true := isB_iff.2 (by omega)
    rw [e]; unfold ofL ofF ofS; rw [hb]
    have a1 : ¬ s + 8 < 8 := by omega
    have a2 : s + 8 < 40 := by omega
    simp only [if_true, if_neg a1, if_pos a2, true_and]
    omega
  · have e : indexI 2 f s = 40 + f * 32 + s := by unfold indexI; simp
    have hb : blkB (40 + f * 32 + s) = true := isB_iff.2 (by omega)
    rw [e]; unfold ofL ofF ofS; rw [hb]
    have a1 : ¬ 40 + f * 32 + s < 8 := by omega
    have a2 : ¬ 40 + f * 32 + s < 40 := by omega
    simp only [if_true, if_neg a1, if_neg a2, true_and]
    omega

/-- What a file needs that has this block. -/
def needL (i : Int) : List (Int × Int) :=
  if blkB i then (if i < 8 then [(0, i)] else if i < 40 then [(0, i), (1, 0)] else [(0, i), (2, (i - 40) / 32), (3, 0)]) else []
theorem needL_le (i : Int) : (needL i).length ≤ 3 := by
  unfold needL
  (repeat' split) <;> simp
theorem needL_small {i : Int} : ∀ p ∈ needL i, (0 ≤ p.1 ∧ p.1 ≤ 3) ∧ (0 ≤ p.2 ∧ p.2 ≤ 1063) := by
  intro p hp
  unfold needL at hp
  split at hp
  · rename_i hb
    have := isB_iff.1 hb
    split at hp
    · simp at hp; subst hp; simp; omega
    · split at hp
      · simp at hp; rcases hp with rfl | rfl <;> simp <;> omega
      · simp at hp; rcases hp with rfl | rfl | rfl <;> simp <;> omega
  · simp at hp
/-- Each once. -/
def addN (seen : List (Int × Int)) (x : Int × Int) : List (Int × Int) := if x ∈ seen then seen else seen ++ [x]
def onceN (l : List (Int × Int)) : List (Int × Int) := l.foldl addN []
theorem onceN_snoc (l : List (Int × Int)) (x : Int × Int) : onceN (l ++ [x]) = addN (onceN l) x := by unfold onceN; simp
theorem mem_addN {s : List (Int × Int)} {x y : Int × Int} : y ∈ addN s x ↔ y ∈ s ∨ y = x := by
  unfold addN; split
  · constructor
    · exact Or.inl
    · rintro (h | rfl) <;> assumption
  · simp
theorem mem_foldN (l : List (Int × Int)) : ∀ (s : List (Int × Int)) (y : Int × Int), y ∈ l.foldl addN s ↔ y ∈ s ∨ y ∈ l := by
  induction l with
  | nil => simp
  | cons x l ih => intro s y; rw [List.foldl_cons, ih, mem_addN]; simp [or_assoc]
theorem mem_onceN {l : List (Int × Int)} {y : Int × Int} : y ∈ onceN l ↔ y ∈ l := by unfold onceN; rw [mem_foldN]; simp
theorem nodup_addN {s : List (Int × Int)} (x : Int × Int) (h : s.Nodup) : (addN s x).Nodup := by
  unfold addN; split
  · exact h
  · rename_i hx
    rw [List.nodup_append]
    refine ⟨h, by simp, ?_⟩
    intro a ha b hb
    simp at hb
    subst hb
    intro e; subst e; exact hx ha
theorem nodup_foldN (l : List (Int × Int)) : ∀ s : List (Int × Int), s.Nodup → (l.foldl addN s).Nodup := by
  induction l with
  | nil => intro s h; exact h
  | cons x l ih => intro s h; exact ih _ (nodup_addN x h)
theorem nodup_onceN (l : List (Int × Int)) : (onceN l).Nodup := nodup_foldN l [] List.nodup_nil
theorem foldN_le (l : List (Int × Int)) : ∀ s : List (Int × Int), s.length ≤ (l.foldl addN s).length ∧ (l.foldl addN s).length ≤ s.length + l.length := by
  induction l with
  | nil => intro s; simp
  | cons x l ih =>
    intro s
    obtain ⟨h1, h2⟩ := ih (addN s x)
    have : s.length ≤ (addN s x).length ∧ (addN s x).length ≤ s.length + 1 := by unfold addN; split <;> simp
    rw [List.foldl_cons, List.length_cons]; omega
theorem foldN_same (l : List (Int × Int)) : ∀ s : List (Int × Int), (∀ x ∈ l, x ∈ s) → l.foldl addN s = s := by
  induction l with
  | nil => intro s _; rfl
  | cons x l ih =>
    intro s h
    have e : addN s x = s := if_pos (h x (by simp))
    rw [List.foldl_cons, e]
    exact ih s fun y hy => h y (by simp [hy])
theorem flat_le (l : List Int) : (l.flatMap needL).length ≤ 3 * l.length := by
  induction l with
  | nil => simp
  | cons x l ih =>
    have := needL_le x
    rw [List.flatMap_cons, List.length_append, List.length_cons]
    omega
/-- What a file costs. -/
def costL (l : List Int) : Nat := 1 + (onceN (l.flatMap needL)).length
theorem costL_le (l : List Int) : costL l ≤ 1 + 3 * l.length := by
  unfold costL onceN
  have h := (foldN_le (l.flatMap needL) []).2
  have := flat_le l
  simp only [List.length_nil, Nat.zero_add] at h; omega
theorem costL_more (l : List Int) (x : Int) : costL l ≤ costL (l ++ [x]) ∧ costL (l ++ [x]) ≤ costL l + 3 := by
  unfold costL onceN
  rw [List.flatMap_append, List.foldl_append]
  have h := foldN_le ([x].flatMap needL) ((l.flatMap needL).foldl addN [])
  have := needL_le x
  simp only [List.flatMap_cons, List.flatMap_nil, List.append_nil] at h ⊢
  omega
theorem costL_twice (l : List Int) : costL (l ++ l) = costL l := by
  unfold costL onceN
  rw [List.flatMap_append, List.foldl_append, foldN_same _ _ fun x hx => ?_]
  exact mem_onceN.2 hx
theorem costL_nil : costL [] = 1 := rfl
/-- Two blocks on one pointer block. -/
theorem costL_two {a b : Int} (ha : blkB a = true) (hb : blkB b = true) (hne : a ≠ b) (hl : 0 < ofL a) (h1 : ofL a = ofL b) (h2 : ofF a = ofF b) : costL [a, b] = costL [a] + 1 := by
  have a1 := isB_iff.1 ha
  have b1 := isB_iff.1 hb
  unfold ofL at hl h1
  unfold ofF at h2
  rw [ha] at hl
  rw [ha, hb] at h1 h2
  simp only [if_true] at hl h1 h2
  unfold costL onceN needL
  simp only [List.flatMap_cons, List.flatMap_nil, ha, hb, if_true, List.append_nil]
  by_cases c1 : a < 8
  · simp [c1] at hl
  · by_cases c2 : a < 40
    · have d1 : ¬ b < 8 := by intro h; simp [c1, c2, h] at h1
      have d2 : b < 40 := by
        apply Classical.byContradiction; intro h
        simp [c1, c2, d1, h] at h1
      rw [if_neg c1, if_pos c2, if_neg d1, if_pos d2]
      have hne' : ¬ b = a := fun h => hne h.symm
      simp [addN, hne']
    · have d1 : ¬ b < 8 := by intro h; simp [c1, c2, h] at h1
      have d2 : ¬ b < 40 := by
        intro h
        simp [c1, c2, d1, h] at h1
      rw [if_neg c2, if_neg d2] at h2
      rw [if_neg c1, if_neg c2, if_neg d1, if_neg d2, ← h2]
      have hne' : ¬ b = a := fun h => hne h.symm
      simp [addN, hne']
end Go.Proofs.YtcpbffmffoneeaaDoor
