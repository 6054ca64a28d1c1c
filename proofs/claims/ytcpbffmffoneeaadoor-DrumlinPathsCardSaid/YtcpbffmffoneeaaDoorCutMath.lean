/- Bytes, block by block: the numbers. -/
import Derived.Test.YtcpbffmffoneeaaDoorMath
namespace Go.Proofs.YtcpbffmffoneeaaDoor
set_option linter.unusedVariables false

/-- How many blocks the bytes from a to e touch. -/
def cutN (a e : Int) : Nat := if a < e then ((e - 1) / 128 - a / 128 + 1).toNat else 0
/-- The j-th piece. -/
def pieceP (a e : Int) (j : Nat) : Int × Int × Int := (a / 128 + j, (if j = 0 then a % 128 else 0), (if a / 128 + j = (e - 1) / 128 then (e - 1) % 128 + 1 else 128))
def cutL (a e : Int) : List (Int × Int × Int) := (List.range (cutN a e)).map (pieceP a e)
theorem cutL_length (a e : Int) : (cutL a e).length = cutN a e := by unfold cutL; simp
theorem cutL_get {a e : Int} {j : Nat} (h : j < cutN a e) : (cutL a e)[j]? = some (pieceP a e j) := by
  unfold cutL; rw [List.getElem?_map, List.getElem?_range h]; rfl
theorem cutL_none {a e : Int} (h : e ≤ a) : cutL a e = [] := by unfold cutL cutN; rw [if_neg (by omega)]; rfl
theorem cutN_le {a e : Int} (ha : 0 ≤ a) (he : e ≤ 136192) : cutN a e ≤ 1064 := by unfold cutN; split <;> omega
/-- Where the j-th piece begins. -/
def cutA (a : Int) (j : Nat) : Int := if j = 0 then a else (a / 128 + j) * 128
theorem cutA_zero (a : Int) : cutA a 0 = a := rfl
theorem cutA_in {a e : Int} (ha : 0 ≤ a) {j : Nat} (h : j < cutN a e) : a ≤ cutA a j ∧ cutA a j < e := by
  unfold cutN at h
  split at h
  · unfold cutA; split <;> omega
  · omega
theorem cutA_out {a e : Int} (ha : 0 ≤ a) {j : Nat} (hj : j = cutN a e) (h0 : a < e) : e ≤ cutA a j ∧ cutA a j < e + 128 := by
  unfold cutN at hj
  rw [if_pos h0] at hj
  unfold cutA; rw [if_neg (by omega)]; omega
/-- What the program reckons of it. -/
theorem pieceP_is {a e : Int} (ha : 0 ≤ a) {j : Nat} (h : j < cutN a e) :
    pieceP a e j = (cutA a j / 128, cutA a j % 128, min 128 (cutA a j % 128 + e - cutA a j)) := by
  unfold cutN at h
  split at h
  · unfold pieceP cutA
    by_cases hj : j = 0
    · subst hj
      simp only [if_true]
      refine Prod.ext (by simp) (Prod.ext rfl ?_)
      show (if a / 128 + ((0 : Nat) : Int) = (e - 1) / 128 then (e - 1) % 128 + 1 else 128) = min 128 (a % 128 + e - a)
      split <;> omega
    · simp only [if_neg hj]
      refine Prod.ext (by first | (simp; done) | (simp; omega)) (Prod.ext (by simp) ?_)
      show (if a / 128 + (j : Int) = (e - 1) / 128 then (e - 1) % 128 + 1 else 128) = min 128 ((a / 128 + (j : Int)) * 128 % 128 + e - (a / 128 + (j : Int)) * 128)
      split <;> omega
  · omega
theorem cutA_step {a e : Int} (ha : 0 ≤ a) {j : Nat} (h : j < cutN a e) :
    (j + 1 < cutN a e → cutA a j + (min 128 (cutA a j % 128 + e - cutA a j) - cutA a j % 128) = cutA a (j + 1)) ∧
    (j + 1 = cutN a e → cutA a j + (min 128 (cutA a j % 128 + e - cutA a j) - cutA a j % 128) = e) := by
  unfold cutN at h ⊢
  split at h
  · rename_i h0
    rw [if_pos h0]
    unfold cutA
    rw [if_neg (Nat.succ_ne_zero j)]
    by_cases hj : j = 0
    · subst hj
      simp only [if_true]
      constructor <;> intro hh <;> omega
    · simp only [if_neg hj]
      constructor <;> intro hh <;> omega
  · omega
/-- A byte more. -/
theorem cutN_snoc {a e : Int} (ha : 0 ≤ a) (h : a ≤ e) :
    (a < e ∧ (e - 1) / 128 = e / 128 → cutN a (e + 1) = cutN a e) ∧ (¬ (a < e ∧ (e - 1) / 128 = e / 128) → cutN a (e + 1) = cutN a e + 1) := by
  unfold cutN
  rw [if_pos (show a < e + 1 by omega)]
  constructor
  · rintro ⟨h1, h2⟩
    rw [if_pos h1]; congr 1; omega
  · intro h1
    by_cases h2 : a < e
    · have h3 : (e - 1) / 128 ≠ e / 128 := fun hh => h1 ⟨h2, hh⟩
      rw [if_pos h2]; omega
    · have : a = e := by omega
      subst this
      rw [if_neg (by omega)]; omega
/-- The last piece. -/
theorem pieceP_last {a e : Int} (ha : 0 ≤ a) (h : a < e) : pieceP a e (cutN a e - 1) = ((e - 1) / 128, (if (e - 1) / 128 = a / 128 then a % 128 else 0), (e - 1) % 128 + 1) := by
  unfold pieceP cutN
  rw [if_pos h]
  refine Prod.ext (by simp; omega) (Prod.ext ?_ ?_)
  · show (if ((e - 1) / 128 - a / 128 + 1).toNat - 1 = 0 then a % 128 else 0) = _
    by_cases hh : (e - 1) / 128 = a / 128
    · rw [if_pos (by omega), if_pos hh]
    · rw [if_neg (by omega), if_neg hh]
  · show (if a / 128 + ((((e - 1) / 128 - a / 128 + 1).toNat - 1 : Nat) : Int) = (e - 1) / 128 then (e - 1) % 128 + 1 else 128) = _
    rw [if_pos (by omega)]
theorem cutL_more {a e : Int} (ha : 0 ≤ a) (h : a < e) (hs : (e - 1) / 128 = e / 128) :
    cutL a (e + 1) = (cutL a e).set (cutN a e - 1) ((e - 1) / 128, (if (e - 1) / 128 = a / 128 then a % 128 else 0), (e - 1) % 128 + 1 + 1) := by
  have hn := (cutN_snoc ha (Int.le_of_lt h)).1 ⟨h, hs⟩
  have hpos : 0 < cutN a e := by unfold cutN; rw [if_pos h]; omega
  apply List.ext_getElem?
  intro j
  by_cases hj : j < cutN a e
  · rw [cutL_get (by omega), List.getElem?_set]
    by_cases hl : cutN a e - 1 = j
    · rw [if_pos hl, if_pos (by rw [cutL_length]; omega)]
      have := pieceP_last (a := a) (e := e + 1) ha (by omega)
      rw [hn] at this
      rw [← hl, this]
      have e1 : e + 1 - 1 = e := by omega
      rw [e1, ← hs]
      congr 1
      refine Prod.ext rfl (Prod.ext rfl ?_)
      show e % 128 + 1 = (e - 1) % 128 + 1 + 1
      omega
    · rw [if_neg hl, cutL_get hj]
      unfold pieceP
      have h1 : ¬ (a / 128 + (j : Int) = (e - 1) / 128) := by unfold cutN at hj hl; rw [if_pos h] at hj hl; omega
      have h2 : ¬ (a / 128 + (j : Int) = (e + 1 - 1) / 128) := by
        have : e + 1 - 1 = e := by omega
        rw [this, ← hs]; exact h1
      rw [if_neg h1, if_neg h2]
  · rw [List.getElem?_eq_none (by rw [cutL_length]; omega), List.getElem?_eq_none (by rw [List.length_set, cutL_length]; omega)]
theorem cutL_new {a e : Int} (ha : 0 ≤ a) (h : a ≤ e) (hs : ¬ (a < e ∧ (e - 1) / 128 = e / 128)) : cutL a (e + 1) = cutL a e ++ [(e / 128, e % 128, e % 128 + 1)] := by
  have hn := (cutN_snoc ha h).2 hs
  apply List.ext_getElem?
  intro j
  by_cases hj : j < cutN a e
  · rw [cutL_get (by omega), List.getElem?_append_left (by rw [cutL_length]; exact hj), cutL_get hj]
    unfold pieceP
    have h0 : a < e := by
      apply Classical.byContradiction; intro hh
      unfold cutN at hj; rw [if_neg hh] at hj; omega
    have h3 : (e - 1) / 128 ≠ e / 128 := fun hh => hs ⟨h0, hh⟩
    have e1 : e + 1 - 1 = e := by omega
    rw [e1]
    unfold cutN at hj; rw [if_pos h0] at hj
    have h1 : ¬ (a / 128 + (j : Int) = e / 128) := by omega
    rw [if_neg h1]
    by_cases h2 : a / 128 + (j : Int) = (e - 1) / 128
    · rw [if_pos h2]
      congr 2
      refine Prod.ext rfl ?_
      show (128 : Int) = (e - 1) % 128 + 1
      omega
    · rw [if_neg h2]
  · by_cases hk : j = cutN a e
    · subst hk
      rw [cutL_get (by omega), List.getElem?_append_right (by rw [cutL_length]; omega), cutL_length, Nat.sub_self]
      have := pieceP_last (a := a) (e := e + 1) ha (by omega)
      rw [hn, Nat.add_sub_cancel] at this
      rw [this]
      have e1 : e + 1 - 1 = e := by omega
      rw [e1]
      show some _ = some _
      congr 1
      refine Prod.ext rfl (Prod.ext ?_ rfl)
      show (if e / 128 = a / 128 then a % 128 else 0) = e % 128
      by_cases h0 : a < e
      · have h3 : (e - 1) / 128 ≠ e / 128 := fun hh => hs ⟨h0, hh⟩
        rw [if_neg (by omega)]; omega
      · have : a = e := by omega
        subst this
        rw [if_pos rfl]
    · rw [List.getElem?_eq_none (by rw [cutL_length]; omega), List.getElem?_eq_none (by rw [List.length_append, cutL_length]; simp; omega)]
theorem pieceP_small {a e : Int} (ha : 0 ≤ a) (he : e ≤ 136192) {j : Nat} (h : j < cutN a e) : (0 ≤ (pieceP a e j).1 ∧ (pieceP a e j).1 ≤ 1063) ∧ (0 ≤ (pieceP a e j).2.1 ∧ (pieceP a e j).2.1 < (pieceP a e j).2.2) ∧ (pieceP a e j).2.2 ≤ 128 := by
  rw [pieceP_is ha h]
  obtain ⟨h1, h2⟩ := cutA_in ha h
  refine ⟨?_, ?_, ?_⟩ <;> dsimp only <;> omega
end Go.Proofs.YtcpbffmffoneeaaDoor
