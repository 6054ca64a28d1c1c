/- slices.DeleteFunc at processes, by its walk. -/
import Derived.Test.YtebkkbmplndcpaaGddelfdgn
namespace Go.Proofs.Ytebkkbmplndcpaa
open Go.RowKit Go.Sort
set_option linter.unusedVariables false
set_option linter.unusedSimpArgs false
set_option maxRecDepth 100000

theorem zeroCells_six (n : Nat) : ∃ zs, (Builtin.zeroCells (Value.agg #[.int .i64 0, .int .i64 0, .int .i64 0, .int .i64 0, .int .i64 0, .bool false]).cells n).toList = zs ∧ zs.length = n * 6 ∧ ∀ v ∈ zs, v.oneCell' = true := by
  refine ⟨_, rfl, ?_, ?_⟩
  · simp [Builtin.zeroCells, Value.cells]
  · intro v hv
    simp only [Builtin.zeroCells, Value.cells, Array.toList_map, List.mem_map] at hv
    obtain ⟨k, _, rfl⟩ := hv
    have h6 : k % 6 < 6 := Nat.mod_lt _ (by decide)
    show ((#[Value.int .i64 0, .int .i64 0, .int .i64 0, .int .i64 0, .int .i64 0, .bool false] : Array Value)[k % 6]!).oneCell' = true
    obtain h | h | h | h | h | h : k % 6 = 0 ∨ k % 6 = 1 ∨ k % 6 = 2 ∨ k % 6 = 3 ∨ k % 6 = 4 ∨ k % 6 = 5 := by omega
    all_goals rw [h]; rfl
theorem filter_snoc_no {p : ProcD → Bool} {l : List ProcD} {j : Nat} {u : ProcD} (h : l[j]? = some u) (hp : p u = false) : (l.take (j + 1)).filter (fun x => !p x) = (l.take j).filter (fun x => !p x) ++ [u] := by
  rw [List.take_add_one, h, List.filter_append]
  simp [hp]
theorem filter_snoc_yes {p : ProcD → Bool} {l : List ProcD} {j : Nat} {u : ProcD} (h : l[j]? = some u) (hp : p u = true) : (l.take (j + 1)).filter (fun x => !p x) = (l.take j).filter (fun x => !p x) := by
  rw [List.take_add_one, h, List.filter_append]
  simp [hp]
/-- Six cells of a row stored: the row is another one. -/
theorem rows_put6 {B : Nat} {w : World} {gs n cap i : Nat} {m : List ProcD} (h : OwnsR' B w 40 6 (.slice (some ⟨gs, 0, none⟩) n cap) (procsV m)) (hn : m.length = n) (hi : i < n) (u : ProcD) :
    OwnsR' B ((((((w.setCell ⟨gs, i * 6, none⟩ (.int .i64 u.pid)).setCell ⟨gs, i * 6 + 1, none⟩ (.int .i64 u.parent)).setCell ⟨gs, i * 6 + 2, none⟩ (.int .i64 u.state)).setCell ⟨gs, i * 6 + 3, none⟩ (.int .i64 u.code)).setCell ⟨gs, i * 6 + 4, none⟩ (.int .i64 u.til)).setCell ⟨gs, i * 6 + 5, none⟩ (.bool u.killed)) 40 6 (.slice (some ⟨gs, 0, none⟩) n cap) (procsV (m.set i u)) ∧ w.grownBy ((((((w.setCell ⟨gs, i * 6, none⟩ (.int .i64 u.pid)).setCell ⟨gs, i * 6 + 1, none⟩ (.int .i64 u.parent)).setCell ⟨gs, i * 6 + 2, none⟩ (.int .i64 u.state)).setCell ⟨gs, i * 6 + 3, none⟩ (.int .i64 u.code)).setCell ⟨gs, i * 6 + 4, none⟩ (.int .i64 u.til)).setCell ⟨gs, i * 6 + 5, none⟩ (.bool u.killed)) (some gs) := by
  obtain ⟨r, hr⟩ : ∃ r, m[i]? = some r := ⟨_, List.getElem?_eq_getElem (by omega)⟩
  have hk := rows_cellsT (i := i) (procV u) 0 w (procsV m) (procV r) h (by rw [procsV_length]; exact hn) (procsV_get hr) (by show 0 + 6 ≤ 6; decide)
  have e : (procsV m).set i ((procV r).take 0 ++ procV u ++ (procV r).drop (0 + (procV u).length)) = procsV (m.set i u) := by
    unfold procsV
    rw [List.map_set]
    rfl
  rw [e, Nat.add_zero] at hk
  exact hk
/-- The state of the loop. -/
structure Half (B : Nat) (w : World) (gs L cap : Nat) (p : ProcD → Bool) (l : List ProcD) (i j : Nat) (m : List ProcD) : Prop where
  own : OwnsR' B w 40 6 (.slice (some ⟨gs, 0, none⟩) L cap) (procsV m)
  len : m.length = L
  il : i ≤ j
  jl : j ≤ L
  head : m.take i = (l.take j).filter (fun x => !p x)
  tail : m.drop j = l.drop j
theorem Half.below {B : Nat} {w w' : World} {gs L cap : Nat} {p : ProcD → Bool} {l m : List ProcD} {i j : Nat} (h : Half B w gs L cap p l i j m) (b : Below w.heap.size w w') : Half B w' gs L cap p l i j m := ⟨h.own.below b, h.len, h.il, h.jl, h.head, h.tail⟩
theorem Half.get {B : Nat} {w : World} {gs L cap : Nat} {p : ProcD → Bool} {l m : List ProcD} {i j : Nat} (h : Half B w gs L cap p l i j m) {u : ProcD} (hu : l[j]? = some u) : m[j]? = some u := by
  have := congrArg (·[0]?) h.tail
  simpa [List.getElem?_drop, hu] using this
theorem Half.skip {B : Nat} {w : World} {gs L cap : Nat} {p : ProcD → Bool} {l m : List ProcD} {i j : Nat} (h : Half B w gs L cap p l i j m) {u : ProcD} (hu : l[j]? = some u) (hp : p u = true) (hj : j < L) : Half B w gs L cap p l i (j + 1) m :=
  ⟨h.own, h.len, by have := h.il; omega, hj, by rw [h.head, filter_snoc_yes hu hp], by rw [← List.drop_drop, ← List.drop_drop, h.tail]⟩
theorem Half.keep {B : Nat} {w w' : World} {gs L cap : Nat} {p : ProcD → Bool} {l m : List ProcD} {i j : Nat} (h : Half B w gs L cap p l i j m) {u : ProcD} (hu : l[j]? = some u) (hp : p u = false) (hj : j < L) (ho : OwnsR' B w' 40 6 (.slice (some ⟨gs, 0, none⟩) L cap) (procsV (m.set i u))) : Half B w' gs L cap p l (i + 1) (j + 1) (m.set i u) := by
  have hil := h.il
  refine ⟨ho, by rw [List.length_set]; exact h.len, by omega, hj, ?_, ?_⟩
  · rw [filter_snoc_no hu hp, ← h.head, List.take_add_one, List.take_set_of_le (Nat.le_refl _), List.getElem?_set_self (by rw [h.len]; omega)]
    rfl
  · rw [List.drop_set_of_lt (by omega), ← List.drop_drop, ← List.drop_drop, h.tail]
end Go.Proofs.Ytebkkbmplndcpaa
