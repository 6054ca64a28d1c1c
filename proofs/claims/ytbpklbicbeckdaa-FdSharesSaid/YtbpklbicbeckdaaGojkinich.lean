/- How often open files are known. -/
import Derived.Test.YtbpklbicbeckdaaGhippfjmc
namespace Go.Proofs.Ytbpklbicbeckdaa
open Go.RowKit Go.Sort
set_option linter.unusedVariables false
set_option linter.unusedSimpArgs false
set_option maxRecDepth 100000

theorem FewRefs.mono {k m : Nat} {fl : List FileD} (h : FewRefs k fl) (hm : k ≤ m) : FewRefs m fl := fun o ho => ⟨(h o ho).1, by have := (h o ho).2; omega⟩
theorem few_set {k : Nat} {fl : List FileD} (h : FewRefs k fl) (i : Nat) (o : FileD) (h1 : 0 ≤ o.refs) (h2 : o.refs ≤ (k : Int) + 1) : FewRefs (k + 1) (fl.set i o) := by
  intro x hx
  rcases List.mem_or_eq_of_mem_set hx with hx | rfl
  · have := h x hx; omega
  · omega
theorem few_open {j : Nat} {fl : List FileD} (h : FewRefs j fl) (k n f : Int) : FewRefs (j + 1) (openF fl k n f).1 ∧ (openF fl k n f).1.length = fl.length := by
  unfold openF
  split
  · exact ⟨h.mono (Nat.le_succ _), rfl⟩
  · split
    · exact ⟨h.mono (Nat.le_succ _), rfl⟩
    · exact ⟨few_set h _ _ (by show (0 : Int) ≤ 1; decide) (by show (1 : Int) ≤ _; omega), List.length_set⟩
theorem few_ref {j : Nat} {fl : List FileD} (h : FewRefs j fl) (n : Int) : FewRefs (j + 1) (refF fl n).1 ∧ (refF fl n).1.length = fl.length := by
  unfold refF
  cases ho : openAt fl n with
  | none => exact ⟨h.mono (Nat.le_succ _), rfl⟩
  | some o =>
    obtain ⟨i, rfl, hu, _⟩ := openAt_some ho
    have := h o (List.mem_of_getElem? hu)
    exact ⟨few_set h _ _ (by show 0 ≤ o.refs + 1; omega) (by show o.refs + 1 ≤ _; omega), List.length_set⟩
theorem few_move {j : Nat} {fl : List FileD} (h : FewRefs j fl) (n x : Int) : FewRefs (j + 1) (moveF fl n x).1 ∧ (moveF fl n x).1.length = fl.length := by
  unfold moveF
  cases ho : openAt fl n with
  | none => exact ⟨h.mono (Nat.le_succ _), rfl⟩
  | some o =>
    obtain ⟨i, rfl, hu, _⟩ := openAt_some ho
    have := h o (List.mem_of_getElem? hu)
    dsimp only
    split
    · exact ⟨h.mono (Nat.le_succ _), rfl⟩
    · exact ⟨few_set h _ _ (by show 0 ≤ o.refs; omega) (by show o.refs ≤ _; omega), List.length_set⟩
theorem few_close {j : Nat} {fl : List FileD} (h : FewRefs j fl) (n : Int) : FewRefs (j + 1) (closeF fl n).1 ∧ (closeF fl n).1.length = fl.length := by
  unfold closeF
  cases ho : openAt fl n with
  | none => exact ⟨h.mono (Nat.le_succ _), rfl⟩
  | some o =>
    obtain ⟨i, rfl, hu, hk⟩ := openAt_some ho
    have := h o (List.mem_of_getElem? hu)
    have hk2 : 0 < o.refs := of_decide_eq_true hk
    dsimp only
    split
    · exact ⟨few_set h _ _ (by decide) (by show (0 : Int) ≤ _; omega), List.length_set⟩
    · exact ⟨few_set h _ _ (by show 0 ≤ o.refs - 1; omega) (by show o.refs - 1 ≤ _; omega), List.length_set⟩
end Go.Proofs.Ytbpklbicbeckdaa
