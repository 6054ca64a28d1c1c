/- The best one again and again, by marks of what was taken: plain lists. -/
import Derived.Test.YtplkglepbedhoaaSortMath
namespace Go.Proofs.Ytplkglepbedhoaa
set_option linter.unusedVariables false

/-- What is left ahead of i: what may be, and was not taken. -/
def remL (c : Nat → Bool) (u : List Bool) (i : Nat) : List Nat := (List.range i).filter fun j => c j && !(u.getD j false)
def bestI : Option Nat → Int
  | none => -1
  | some b => (b : Int)
theorem remL_succ (c : Nat → Bool) (u : List Bool) (i : Nat) : remL c u (i + 1) = remL c u i ++ if c i && !(u.getD i false) then [i] else [] := by
  unfold remL
  rw [List.range_succ, List.filter_append, List.filter_cons, List.filter_nil]
theorem remL_no {c : Nat → Bool} {u : List Bool} {i : Nat} (h : (c i && !(u.getD i false)) = false) : remL c u (i + 1) = remL c u i := by rw [remL_succ, h]; simp
theorem remL_yes {c : Nat → Bool} {u : List Bool} {i : Nat} (h : (c i && !(u.getD i false)) = true) : remL c u (i + 1) = remL c u i ++ [i] := by rw [remL_succ, h]; simp
theorem pickL_snoc (lt : Nat → Nat → Bool) (l : List Nat) (i : Nat) : pickL lt (l ++ [i]) = some (match pickL lt l with | none => i | some b => if lt i b then i else b) := by
  cases l with
  | nil => rfl
  | cons a l =>
    show some (bestL lt a (l ++ [i])) = _
    unfold bestL
    rw [List.foldl_append]
    rfl
theorem pickL_none {lt : Nat → Nat → Bool} {l : List Nat} (h : pickL lt l = none) : l = [] := by
  cases l with
  | nil => rfl
  | cons a l => cases h
theorem bestL_mem (lt : Nat → Nat → Bool) : ∀ (l : List Nat) (a : Nat), bestL lt a l = a ∨ bestL lt a l ∈ l
  | [], a => .inl rfl
  | x :: l, a => by
    have e : bestL lt a (x :: l) = bestL lt (if lt x a then x else a) l := rfl
    rw [e]
    rcases bestL_mem lt l (if lt x a then x else a) with h | h
    · rw [h]
      split
      · right; simp
      · left; rfl
    · right; simp [h]
theorem pickL_mem {lt : Nat → Nat → Bool} {l : List Nat} {b : Nat} (h : pickL lt l = some b) : b ∈ l := by
  cases l with
  | nil => cases h
  | cons a l =>
    have e : bestL lt a l = b := Option.some.inj h
    rcases bestL_mem lt l a with h1 | h1
    · rw [← e, h1]; simp
    · rw [← e]; simp [h1]
theorem remL_mem {c : Nat → Bool} {u : List Bool} {n b : Nat} (h : b ∈ remL c u n) : b < n ∧ c b = true ∧ u.getD b false = false := by
  unfold remL at h
  rw [List.mem_filter, List.mem_range] at h
  have := h.2
  simp at this
  exact ⟨h.1, this.1, by rw [List.getD_eq_getElem?_getD]; exact this.2⟩
theorem remL_increasing (c : Nat → Bool) (u : List Bool) (n : Nat) : (remL c u n).Pairwise (· < ·) := List.Pairwise.filter _ List.pairwise_lt_range
theorem remL_set {c : Nat → Bool} {u : List Bool} {n b : Nat} (hn : n ≤ u.length) (hb : b < n) : remL c (u.set b true) n = (remL c u n).erase b := by
  have hnd : (remL c u n).Nodup := (remL_increasing c u n).imp (fun h => by omega)
  rw [List.Nodup.erase_eq_filter hnd]
  unfold remL
  rw [List.filter_filter]
  apply List.filter_congr
  intro j hj
  rw [List.mem_range] at hj
  rw [List.getD_eq_getElem?_getD, List.getD_eq_getElem?_getD, List.getElem?_set]
  by_cases h : b = j
  · subst h
    simp [show b < u.length by omega]
  · have h2 : (j != b) = true := by simp; exact fun e => h e.symm
    simp [h, h2]
theorem remL_length (c : Nat → Bool) (u : List Bool) (n : Nat) : (remL c u n).length ≤ n := by
  unfold remL
  have := List.length_filter_le (fun j => c j && !(u.getD j false)) (List.range n)
  rwa [List.length_range] at this
theorem selL_done {lt : Nat → Nat → Bool} {k : Nat} {l : List Nat} (h : pickL lt l = none) : selL lt k l = [] := by
  cases k with
  | zero => rfl
  | succ k => rw [selL, h]
theorem selL_next {lt : Nat → Nat → Bool} {k : Nat} {l : List Nat} {b : Nat} (h : pickL lt l = some b) (hk : l.length ≤ k) : ∃ j, k = j + 1 ∧ selL lt k l = b :: selL lt j (l.erase b) ∧ (l.erase b).length ≤ j := by
  have hm := pickL_mem h
  have hp : 0 < l.length := List.length_pos_of_mem hm
  cases k with
  | zero => omega
  | succ j =>
    refine ⟨j, rfl, by rw [selL, h], ?_⟩
    rw [List.length_erase_of_mem hm]
    omega
theorem remL_none (c : Nat → Bool) (n m : Nat) : remL c (List.replicate m false) n = (List.range n).filter c := by
  unfold remL
  apply List.filter_congr
  intro j _
  rw [List.getD_eq_getElem?_getD, List.getElem?_replicate]
  split <;> simp
theorem pick_first {lt : Nat → Nat → Bool} {c : Nat → Bool} {u : List Bool} {i : Nat} (h : pickL lt (remL c u i) = none) (hc : (c i && !(u.getD i false)) = true) : bestI (pickL lt (remL c u (i + 1))) = (i : Int) := by
  rw [remL_yes hc, pickL_snoc, h]; rfl
theorem pick_better {lt : Nat → Nat → Bool} {c : Nat → Bool} {u : List Bool} {i b : Nat} (h : pickL lt (remL c u i) = some b) (hc : (c i && !(u.getD i false)) = true) (hl : lt i b = true) : bestI (pickL lt (remL c u (i + 1))) = (i : Int) := by
  rw [remL_yes hc, pickL_snoc, h]
  simp only [hl, if_true]
  rfl
theorem pick_worse {lt : Nat → Nat → Bool} {c : Nat → Bool} {u : List Bool} {i b : Nat} (h : pickL lt (remL c u i) = some b) (hc : (c i && !(u.getD i false)) = true) (hl : lt i b = false) : bestI (pickL lt (remL c u (i + 1))) = (b : Int) := by
  rw [remL_yes hc, pickL_snoc, h]
  simp only [hl, Bool.false_eq_true, if_false]
  rfl
theorem pick_skip {lt : Nat → Nat → Bool} {c : Nat → Bool} {u : List Bool} {i : Nat} (hc : (c i && !(u.getD i false)) = false) : bestI (pickL lt (remL c u (i + 1))) = bestI (pickL lt (remL c u i)) := by
  rw [remL_no hc]
end Go.Proofs.Ytplkglepbedhoaa
