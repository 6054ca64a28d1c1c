/- The inode map: which numbers are given, how many; the first that is free. -/
import Derived.Test.YtpmfkamagdifgaaMap3
namespace Go.Proofs.Ytpmfkamagdifgaa
open Go.RowKit Go.Sort
set_option linter.unusedVariables false
set_option linter.unusedSimpArgs false

def usedAt (sl : List SlotD) (k : Int) : Bool := decide (1 ≤ k) && (match sl[(k - 1).toNat]? with | some s => !(s.kind == 0) | none => false)
def versAt (sl : List SlotD) (k : Int) : Int := if 1 ≤ k then (match sl[(k - 1).toNat]? with | some s => s.version | none => 0) else 0
theorem usedAt_of {sl : List SlotD} {i : Nat} {s : SlotD} (h : sl[i]? = some s) : usedAt sl ((i : Int) + 1) = !(s.kind == 0) := by
  unfold usedAt
  have e : ((i : Int) + 1 - 1).toNat = i := by omega
  rw [e, h]
  simp
  omega
theorem usedAt_out {sl : List SlotD} {k : Int} (h : k < 1 ∨ (sl.length : Int) < k) : usedAt sl k = false := by
  unfold usedAt
  by_cases h1 : 1 ≤ k
  · rw [List.getElem?_eq_none (by omega)]
    simp
  · simp [h1]
theorem versAt_of {sl : List SlotD} {i : Nat} {s : SlotD} (h : sl[i]? = some s) : versAt sl ((i : Int) + 1) = s.version := by
  unfold versAt
  have e : ((i : Int) + 1 - 1).toNat = i := by omega
  rw [if_pos (by omega), e, h]
theorem usedAt_set {sl : List SlotD} {i : Nat} (hi : i < sl.length) (s' : SlotD) (k : Int) : usedAt (sl.set i s') k = if k = (i : Int) + 1 then !(s'.kind == 0) else usedAt sl k := by
  by_cases e : k = (i : Int) + 1
  · subst e
    rw [if_pos rfl, usedAt_of (List.getElem?_set_self hi)]
  · rw [if_neg e]
    unfold usedAt
    by_cases h1 : 1 ≤ k
    · rw [List.getElem?_set_ne (by omega)]
    · simp [h1]
theorem versAt_set {sl : List SlotD} {i : Nat} (hi : i < sl.length) (s' : SlotD) (k : Int) : versAt (sl.set i s') k = if k = (i : Int) + 1 then s'.version else versAt sl k := by
  by_cases e : k = (i : Int) + 1
  · subst e
    rw [if_pos rfl, versAt_of (List.getElem?_set_self hi)]
  · rw [if_neg e]
    unfold versAt
    by_cases h1 : 1 ≤ k
    · rw [if_pos h1, if_pos h1, List.getElem?_set_ne (by omega)]
    · rw [if_neg h1, if_neg h1]
theorem placesL_count {α : Type} (p : α → Bool) (l : List α) : ∀ k, k ≤ l.length → (placesL p l k).length = (l.take k).countP p
  | 0, _ => by simp [placesL]
  | k + 1, h => by
    have hx : l[k]? = some l[k] := List.getElem?_eq_getElem (by omega)
    rw [placesL_succ hx, List.length_append, placesL_count p l k (by omega), List.take_add_one, hx, List.countP_append]
    by_cases hp : p l[k] = true <;> simp [hp]
theorem usedI_count (sl : List SlotD) : (usedI sl).length = sl.countP (fun s : SlotD => !(s.kind == 0)) := by
  unfold usedI
  rw [placesL_count _ _ _ (Nat.le_refl _), List.take_length]
theorem usedI_set {sl : List SlotD} {i : Nat} {s : SlotD} (h : sl[i]? = some s) (s' : SlotD) :
    (usedI (sl.set i s')).length + (if (!(s.kind == 0)) = true then 1 else 0) = (usedI sl).length + (if (!(s'.kind == 0)) = true then 1 else 0) := by
  obtain ⟨hi, e⟩ := List.getElem?_eq_some_iff.1 h
  rw [usedI_count, usedI_count, List.countP_set hi, e]
  have : (if (!(s.kind == 0)) = true then 1 else 0) ≤ sl.countP (fun s : SlotD => !(s.kind == 0)) := by
    split
    · rename_i hp
      exact List.countP_pos_iff.2 ⟨s, List.mem_of_getElem? h, hp⟩
    · exact Nat.zero_le _
  omega
theorem firstI_or {α : Type} (p : α → Bool) (l : List α) : (firstI p l = -1 ∧ ∀ s ∈ l, p s = false) ∨ ∃ (i : Nat) (s : α), firstI p l = (i : Int) ∧ l[i]? = some s ∧ p s = true ∧ ∀ (j : Nat) (t : α), j < i → l[j]? = some t → p t = false := by
  have key : ∀ k, k ≤ l.length → (∀ (j : Nat) (t : α), j < k → l[j]? = some t → p t = false) ∨ ∃ (i : Nat) (s : α), l[i]? = some s ∧ p s = true ∧ ∀ (j : Nat) (t : α), j < i → l[j]? = some t → p t = false := by
    intro k
    induction k with
    | zero => exact fun _ => .inl fun j t hj => by omega
    | succ k ih =>
      intro hk
      rcases ih (by omega) with h | h
      · have hx : l[k]? = some l[k] := List.getElem?_eq_getElem (by omega)
        cases hp : p l[k] with
        | true => exact .inr ⟨k, l[k], hx, hp, h⟩
        | false =>
          refine .inl fun j t hj ht => ?_
          by_cases e : j = k
          · subst e
            rw [hx] at ht
            cases ht
            exact hp
          · exact h j t (by omega) ht
      · exact .inr h
  have empty : ∀ k, (∀ (j : Nat) (t : α), j < k → l[j]? = some t → p t = false) → placesL p l k = [] := by
    intro k h
    unfold placesL
    rw [List.filter_eq_nil_iff]
    intro j hj
    cases hx : l[j]? with
    | none => simp
    | some t => simp [h j t (List.mem_range.1 hj) hx]
  rcases key l.length (Nat.le_refl _) with h | ⟨i, s, h1, h2, h3⟩
  · refine .inl ⟨?_, fun s hs => ?_⟩
    · unfold firstI
      rw [empty _ h]
    · obtain ⟨j, hj⟩ := List.getElem?_of_mem hs
      exact h j s (List.getElem?_eq_some_iff.1 hj).1 hj
  · exact .inr ⟨i, s, firstI_hit (empty i h3) h1 h2, h1, h2, h3⟩
theorem usedI_full {sl : List SlotD} (h : ∀ s ∈ sl, (s.kind == 0) = false) : (usedI sl).length = sl.length := by
  rw [usedI_count]
  exact List.countP_eq_length.2 fun s hs => by rw [h s hs]; rfl
end Go.Proofs.Ytpmfkamagdifgaa
