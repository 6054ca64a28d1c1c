/- slices.IndexFunc at both tables. -/
import Derived.Test.YthainmbapikjiaaPick
import Derived.Shelf.Abstract
import Derived.BigQuiet
import Derived.Deep.QuietTactic
namespace Go.Proofs.Ythainmbapikjiaa
open Go.RowKit Go.Sort
set_option linter.unusedVariables false
set_option linter.unusedSimpArgs false
set_option maxRecDepth 100000

/-- The first place of one that is so. -/
def firstI {α : Type} (p : α → Bool) (l : List α) : Int := match placesL p l l.length with | [] => -1 | i :: _ => (i : Int)
theorem placesL_more {α : Type} (p : α → Bool) (l : List α) (m : Nat) : ∀ n, m ≤ n → ∃ r, placesL p l n = placesL p l m ++ r
  | 0, h => by
    obtain rfl : m = 0 := by omega
    exact ⟨[], by simp⟩
  | n + 1, h => by
    by_cases e : m = n + 1
    · subst e; exact ⟨[], by simp⟩
    · obtain ⟨r, hr⟩ := placesL_more p l m n (by omega)
      cases hx : l[n]? with
      | none =>
        refine ⟨r, ?_⟩
        rw [← hr]
        unfold placesL
        rw [List.range_succ, List.filter_append, List.filter_cons, List.filter_nil, hx]
        simp
      | some x =>
        rw [placesL_succ hx, hr]
        exact ⟨r ++ _, by rw [List.append_assoc]⟩
theorem firstI_hit {α : Type} {p : α → Bool} {l : List α} {k : Nat} {u : α} (h : placesL p l k = []) (hu : l[k]? = some u) (hp : p u = true) : firstI p l = (k : Int) := by
  have h1 := placesL_yes hu hp
  rw [h] at h1
  obtain ⟨r, hr⟩ := placesL_more p l (k + 1) l.length (List.getElem?_eq_some_iff.1 hu).1
  unfold firstI
  rw [hr, h1]
  rfl
end Go.Proofs.Ythainmbapikjiaa
