/- A block that is filled, entry by entry; texts that came in, opened. -/
import Derived.Test.YtpnafikmbbnecaaDir21
import Derived.Test.YtpnafikmbbnecaaDir15
import Derived.Test.YtpnafikmbbnecaaVals
import Derived.Test.YtpnafikmbbnecaaOpen
import Derived.SliceStrings
namespace Go.Proofs.Ytpnafikmbbnecaa
open Go.ChangeShapes Go.WideShapes Go.ChangeAt Go.RowKit Go.Sort
set_option linter.unusedVariables false
set_option linter.unusedSimpArgs false
set_option maxRecDepth 100000

theorem open_texts {H : Type} {enc : TypeId × Value → H} {W : World} {base : Nat} {v : Value} {d : DataW H} {ps : List MemPlace}
    (hok : Value.okWide Try.prog W .any base 41 v) (h : DataW.Trod enc Try.prog W 0 (fun _ => true) true 41 v d ps) :
    ∃ (a : Option Addr) (len cap : Nat) (l : List ByteArray), v = .slice a len cap ∧ ReadsV W a len (l.map Value.string) ∧ len ≤ cap ∧ cap ≤ maxLen ∧ ∀ s ∈ l, s.size ≤ maxLen := by
  obtain ⟨a0, len0, cap0, rfl⟩ := okWide_slice Try.underlying41 hok
  obtain ⟨fuel, hf⟩ := h
  rcases open_strings Try.underlying41 Try.underlying9 (by kernel_rfl) hf with ⟨hcs, _⟩ | ⟨x, l, c, ss, hcs, _, hl, hm, hz, hx, hcell, hsz⟩
  · simp [Value.cells] at hcs
    obtain ⟨rfl, rfl, rfl⟩ := hcs
    exact ⟨none, 0, 0, [], rfl, ⟨rfl, .inl rfl⟩, by omega, by omega, by intro y hy; simp at hy⟩
  · simp [Value.cells] at hcs
    obtain ⟨rfl, rfl, rfl⟩ := hcs
    simp only [if_true] at hz
    refine ⟨_, _, _, ss.take len0, rfl, ⟨by rw [List.length_map, List.length_take]; omega, ?_⟩, hl, hm, fun s hs => hsz s (List.mem_of_mem_take hs)⟩
    by_cases h0 : len0 = 0
    · left; simp [h0]
    · obtain ⟨b, off, spot⟩ := x
      have hc0 := hcell 0 (by omega)
      have hspot : spot = none := by simpa [Addr.add] using World.cell?_spot hc0
      subst hspot
      refine .inr ⟨b, off, rfl, World.block_lt_of_cell? _ _ hc0, fun i u hi => ?_⟩
      have hadd : (⟨b, off, none⟩ : Addr).add i = ⟨b, off + i, none⟩ := by unfold Addr.add; split <;> simp_all
      rw [List.getElem?_map, List.getElem?_take] at hi
      split at hi
      · rename_i hlt
        have h1 := hcell i (by omega)
        rw [hadd] at h1
        rw [h1, ← hi, List.getD_eq_getElem?_getD, List.getElem?_eq_getElem (by omega)]
        rfl
      · cases hi
/-- Entries, and those that are none behind them. -/
def padE (A : List Ent) : List Ent := A ++ zeroE.drop A.length
theorem zeroE_cons {n : Nat} (h : n < 4) : zeroE.drop n = (0, ByteArray.empty) :: zeroE.drop (n + 1) := by
  match n, h with
  | 0, _ => rfl
  | 1, _ => rfl
  | 2, _ => rfl
  | 3, _ => rfl
theorem padE_length {A : List Ent} (h : A.length ≤ 4) : (padE A).length = 4 := by
  unfold padE
  rw [List.length_append, List.length_drop]
  show A.length + (4 - A.length) = 4
  omega
theorem padE_at {A : List Ent} (h : A.length < 4) : (padE A)[A.length]? = some (0, ByteArray.empty) := by
  unfold padE
  rw [List.getElem?_append_right (Nat.le_refl _), Nat.sub_self, zeroE_cons h]
  rfl
theorem padE_set {A : List Ent} (h : A.length < 4) (x : Ent) : ((csE (padE A)).setIfInBounds (A.length * 2) (.int .i64 x.1)).setIfInBounds (A.length * 2 + 1) (.string x.2) = csE (padE (A ++ [x])) := by
  unfold padE
  rw [zeroE_cons h, csE_set A _ _ x]
  congr 1
  rw [List.append_assoc, List.length_append]
  rfl
def GoodA (A : List Ent) : Prop := ∀ x ∈ A, x.1 ≠ 0 ∧ mayD x = true
theorem GoodA.more {A : List Ent} (h : GoodA A) {x : Ent} (h0 : x.1 ≠ 0) (hm : mayD x = true) : GoodA (A ++ [x]) := fun y hy => by
  rcases List.mem_append.1 hy with h1 | h1
  · exact h y h1
  · obtain rfl : y = x := by simpa using h1
    exact ⟨h0, hm⟩
theorem zeros_are : ∀ x ∈ zeroE, x = ((0 : Int), ByteArray.empty) := by
  intro x hx
  simp only [zeroE, List.mem_cons, List.not_mem_nil, or_false] at hx
  rcases hx with rfl | rfl | rfl | rfl <;> rfl
theorem padE_may {A : List Ent} (h : GoodA A) : (padE A).all mayD = true := by
  refine List.all_eq_true.2 fun x hx => ?_
  rcases List.mem_append.1 hx with h1 | h1
  · exact (h x h1).2
  · rw [zeros_are x (List.mem_of_mem_drop h1)]
    decide
theorem padE_free {A : List Ent} (hA : A.length ≤ 4) (h : GoodA A) : fromE freeE (padE A) 0 = if A.length < 4 then (A.length : Int) else -1 := by
  have key : ∀ j, j ≤ A.length → fromE freeE (padE A) 0 = fromE freeE (padE A) j := by
    intro j
    induction j with
    | zero => intro _; rfl
    | succ j ih =>
      intro hj
      rw [ih (by omega)]
      have hx : (padE A)[j]? = some (A[j]'(by omega)) := by
        unfold padE
        rw [List.getElem?_append_left (by omega), List.getElem?_eq_getElem]
      refine fromE_no hx ?_
      have := (h _ (List.getElem_mem (show j < A.length by omega))).1
      unfold freeE
      exact beq_eq_false_iff_ne.2 this
  rw [key A.length (Nat.le_refl _)]
  by_cases h4 : A.length < 4
  · rw [if_pos h4]
    exact fromE_yes (padE_at h4) rfl
  · rw [if_neg h4]
    exact fromE_end (by rw [padE_length hA]; omega)
theorem padE_count {A : List Ent} (hA : A.length ≤ 4) (h : GoodA A) : cntE takenE (padE A) 0 = A.length := by
  unfold cntE padE
  rw [List.drop_zero, List.filter_append]
  have e1 : A.filter takenE = A := List.filter_eq_self.2 fun x hx => by
    have := (h x hx).1
    unfold takenE
    rw [beq_eq_false_iff_ne.2 this]
    rfl
  have e2 : (zeroE.drop A.length).filter takenE = [] := List.filter_eq_nil_iff.2 fun x hx => by
    rw [zeros_are x (List.mem_of_mem_drop hx)]
    decide
  rw [e1, e2, List.append_nil]
theorem fromE_found {p : Ent → Bool} {E : List Ent} {n : Nat} {x : Ent} (hx : E[n]? = some x) (hp : p x = true) : ∃ k : Nat, k ≤ n ∧ fromE p E 0 = (k : Int) ∧ ∃ y, E[k]? = some y ∧ p y = true := by
  have key : ∀ m j, j + m = n → ∃ k : Nat, k ≤ n ∧ fromE p E j = (k : Int) ∧ ∃ y, E[k]? = some y ∧ p y = true := by
    intro m
    induction m with
    | zero =>
      intro j hj
      obtain rfl : j = n := by omega
      exact ⟨j, Nat.le_refl _, fromE_yes hx hp, x, hx, hp⟩
    | succ m ih =>
      intro j hj
      have hlt : j < E.length := by have := (List.getElem?_eq_some_iff.1 hx).1; omega
      have ej : E[j]? = some E[j] := List.getElem?_eq_getElem hlt
      cases hpj : p E[j] with
      | true => exact ⟨j, by omega, fromE_yes ej hpj, _, ej, hpj⟩
      | false =>
        rw [fromE_no ej hpj]
        exact ih (j + 1) (by omega)
  exact key n 0 (by omega)
theorem padE_snoc {A : List Ent} (h : A.length < 4) (x : Ent) : (padE (A ++ [x]))[A.length]? = some x := by
  unfold padE
  rw [List.append_assoc, List.getElem?_append_right (Nat.le_refl _), Nat.sub_self]
  rfl
theorem run_neq_blk {E : List Ent} (hE : E.length = 4) (w : World) : (binOp .neq 28 (.agg (csE E)) (.agg (csE E))).run Try.prog w = .ok (.bool false) w := by
  simp only [binOp]
  simp [Op.equal, Op.maxDepth, run_equalIn_blk hE 9997 w]
end Go.Proofs.Ytpnafikmbbnecaa
