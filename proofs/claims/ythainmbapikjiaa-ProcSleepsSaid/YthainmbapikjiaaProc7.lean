/- Rows moved to the left and cut off; slices.Delete at processes. -/
import Derived.Test.YthainmbapikjiaaProc6
import Derived.Deep.RegionLaw
import Derived.Lib.SliceRun
namespace Go.Proofs.Ythainmbapikjiaa
open Go.RowKit Go.Sort
set_option linter.unusedVariables false
set_option linter.unusedSimpArgs false
set_option maxRecDepth 100000

theorem set_takeT {r : List Value} {j : Nat} (h : j < r.length) (v : Value) (vs : List Value) : (r.set j v).take (j + 1) ++ vs ++ (r.set j v).drop (j + 1 + vs.length) = r.take j ++ (v :: vs) ++ r.drop (j + (v :: vs).length) := by
  have e1 : (r.set j v).take (j + 1) = r.take j ++ [v] := by
    rw [List.take_add_one, List.take_set_of_le (Nat.le_refl _), List.getElem?_set_self h]
    rfl
  have e2 : (r.set j v).drop (j + 1 + vs.length) = r.drop (j + (v :: vs).length) := by
    rw [List.drop_set_of_lt (by omega), List.length_cons]
    congr 1
    omega
  rw [e1, e2]
  simp
theorem rows_cellsT {B : Nat} {e : TypeId} {k gs n cap i : Nat} : ∀ (vs : List Value) (j : Nat) (w : World) (l : List (List Value)) (r : List Value), OwnsR' B w e k (.slice (some ⟨gs, 0, none⟩) n cap) l → l.length = n → l[i]? = some r → j + vs.length ≤ k →
    OwnsR' B (w.setCells gs (i * k + j) vs) e k (.slice (some ⟨gs, 0, none⟩) n cap) (l.set i (r.take j ++ vs ++ r.drop (j + vs.length))) ∧ w.grownBy (w.setCells gs (i * k + j) vs) (some gs)
  | [], j, w, l, r, h, hn, hr, hj => by
    have e : l.set i (r.take j ++ [] ++ r.drop (j + ([] : List Value).length)) = l := by
      rw [List.append_nil, List.length_nil, Nat.add_zero, List.take_append_drop]
      apply List.ext_getElem?
      intro m
      by_cases h9 : i = m
      · subst h9; rw [List.getElem?_set_self (List.getElem?_eq_some_iff.1 hr).1, hr]
      · rw [List.getElem?_set_ne h9]
    rw [e]
    exact ⟨h, grown_same _ _⟩
  | v :: vs, j, w, l, r, h, hn, hr, hj => by
    have hrl : r.length = k := h.1 r (List.mem_of_getElem? hr)
    rw [List.length_cons] at hj
    have s := h.stored hn hr (i := j) (by omega) v
    have hi := (List.getElem?_eq_some_iff.1 hr).1
    have ih := rows_cellsT vs (j + 1) _ (l.set i (r.set j v)) (r.set j v) s.1 (by rw [List.length_set]; exact hn) (List.getElem?_set_self hi) (by omega)
    rw [List.set_set, set_takeT (by omega)] at ih
    exact ⟨ih.1, grown_transT s.2 ih.2⟩
theorem setCells_append (b : Nat) : ∀ (xs ys : List Value) (o : Nat) (w : World), w.setCells b o (xs ++ ys) = (w.setCells b o xs).setCells b (o + xs.length) ys
  | [], ys, o, w => rfl
  | x :: xs, ys, o, w => by
    show (w.setCell ⟨b, o, none⟩ x).setCells b (o + 1) (xs ++ ys) = ((w.setCell ⟨b, o, none⟩ x).setCells b (o + 1) xs).setCells b (o + (x :: xs).length) ys
    rw [setCells_append b xs ys (o + 1), List.length_cons, show o + 1 + xs.length = o + (xs.length + 1) by omega]
/-- Rows stored one behind the other. -/
theorem rows_many {B : Nat} {e : TypeId} {k gs n cap : Nat} : ∀ (R : List (List Value)) (i : Nat) (w : World) (l : List (List Value)), OwnsR' B w e k (.slice (some ⟨gs, 0, none⟩) n cap) l → l.length = n → i + R.length ≤ n → (∀ p ∈ R, p.length = k) →
    OwnsR' B (w.setCells gs (i * k) (flatR R)) e k (.slice (some ⟨gs, 0, none⟩) n cap) (l.take i ++ R ++ l.drop (i + R.length)) ∧ w.grownBy (w.setCells gs (i * k) (flatR R)) (some gs)
  | [], i, w, l, h, hn, hi, hR => by
    have e : l.take i ++ [] ++ l.drop (i + ([] : List (List Value)).length) = l := by rw [List.append_nil, List.length_nil, Nat.add_zero, List.take_append_drop]
    rw [e]
    exact ⟨h, grown_same _ _⟩
  | p :: R, i, w, l, h, hn, hi, hR => by
    rw [List.length_cons] at hi
    obtain ⟨r, hr⟩ : ∃ r, l[i]? = some r := ⟨_, List.getElem?_eq_getElem (by omega)⟩
    have hp : p.length = k := hR p (by simp)
    have hrl : r.length = k := h.1 r (List.mem_of_getElem? hr)
    have s := rows_cellsT (i := i) p 0 w l r h hn hr (by omega)
    rw [List.take_zero, List.nil_append, Nat.zero_add, List.drop_of_length_le (by omega), List.append_nil, Nat.add_zero] at s
    have ih := rows_many R (i + 1) _ (l.set i p) s.1 (by rw [List.length_set]; exact hn) (by omega) (fun q hq => hR q (by simp [hq]))
    have ef : flatR (p :: R) = p ++ flatR R := rfl
    rw [ef, setCells_append, hp, show i * k + k = (i + 1) * k by rw [Nat.succ_mul]]
    have el : (l.set i p).take (i + 1) ++ R ++ (l.set i p).drop (i + 1 + R.length) = l.take i ++ (p :: R) ++ l.drop (i + (p :: R).length) := by
      have e1 : (l.set i p).take (i + 1) = l.take i ++ [p] := by
        rw [List.take_add_one, List.take_set_of_le (Nat.le_refl _), List.getElem?_set_self (by omega)]
        rfl
      have e2 : (l.set i p).drop (i + 1 + R.length) = l.drop (i + (p :: R).length) := by
        rw [List.drop_set_of_lt (by omega), List.length_cons]
        congr 1
        omega
      rw [e1, e2]
      simp
    rw [el] at ih
    exact ⟨ih.1, grown_transT s.2 ih.2⟩
theorem flatR_take {k : Nat} : ∀ (l : List (List Value)) (m : Nat), (∀ p ∈ l, p.length = k) → flatR (l.take m) = (flatR l).take (m * k)
  | [], m, _ => by simp [flatR]
  | p :: l, 0, _ => by simp [flatR]
  | p :: l, m + 1, h => by
    have hp : p.length = k := h p (by simp)
    have ih := flatR_take l m (fun q hq => h q (by simp [hq]))
    have e1 : flatR ((p :: l).take (m + 1)) = p ++ flatR (l.take m) := rfl
    have e2 : flatR (p :: l) = p ++ flatR l := rfl
    have hpk : p.take (m * k + k) = p := List.take_of_length_le (by omega)
    rw [e1, e2, ih, Nat.succ_mul, List.take_append, hp, hpk, show m * k + k - k = m * k by omega]
/-- A shorter slice of the same rows. -/
theorem OwnsR'.shrink {B : Nat} {w : World} {e : TypeId} {k gs n cap : Nat} {l : List (List Value)} (h : OwnsR' B w e k (.slice (some ⟨gs, 0, none⟩) n cap) l) (hn : l.length = n) {m : Nat} (hm : m ≤ n) : OwnsR' B w e k (.slice (some ⟨gs, 0, none⟩) m cap) (l.take m) := by
  obtain ⟨h0, h1, ⟨hv, _⟩ | ⟨g', cap', cur, hv, hB, hg, hc, hmx, hs, ht⟩⟩ := h
  · cases hv
  · cases hv
    have hlm : (l.take m).length = m := by rw [List.length_take]; omega
    refine ⟨fun p hp => h0 p (List.mem_of_mem_take hp), by rw [hlm, flatR_take l m h0, List.length_take, flatR_length h0]; have := Nat.mul_le_mul_right k (show m ≤ l.length by omega); omega, .inr ⟨gs, cap, cur, by rw [hlm], hB, hg, by omega, hmx, hs, ?_⟩⟩
    rw [hlm, flatR_take l m h0, ← ht, List.take_take]
    congr 1
    have := Nat.mul_le_mul_right k (show m ≤ l.length by omega)
    omega
/-- A cell behind the rows, stored. -/
theorem OwnsR'.spare {B : Nat} {w : World} {e : TypeId} {k gs n cap : Nat} {l : List (List Value)} (h : OwnsR' B w e k (.slice (some ⟨gs, 0, none⟩) n cap) l) (hn : l.length = n) {j : Nat} (hj : n * k ≤ j) (x : Value) : OwnsR' B (w.setCell ⟨gs, j, none⟩ x) e k (.slice (some ⟨gs, 0, none⟩) n cap) l := by
  obtain ⟨h0, h1, ⟨hv, _⟩ | ⟨g', cap', cur, hv, hB, hg, hc, hmx, hs, ht⟩⟩ := h
  · cases hv
  · cases hv
    refine ⟨h0, h1, .inr ⟨gs, cap, cur.setIfInBounds j x, rfl, hB, heap_setCell_same w gs j _ _ x hg, hc, hmx, by rw [Array.size_setIfInBounds]; exact hs, ?_⟩⟩
    rw [← ht, Array.toList_setIfInBounds, List.take_set_of_le (by omega)]
theorem OwnsR'.spares {B : Nat} {e : TypeId} {k gs n cap : Nat} {l : List (List Value)} (hn : l.length = n) : ∀ (vs : List Value) (o : Nat) (w : World), OwnsR' B w e k (.slice (some ⟨gs, 0, none⟩) n cap) l → n * k ≤ o → OwnsR' B (w.setCells gs o vs) e k (.slice (some ⟨gs, 0, none⟩) n cap) l ∧ w.grownBy (w.setCells gs o vs) (some gs)
  | [], o, w, h, ho => ⟨h, grown_same _ _⟩
  | v :: vs, o, w, h, ho => by
    have s := h.spare hn ho v
    have ih := OwnsR'.spares hn vs (o + 1) _ s (by omega)
    exact ⟨ih.1, grown_transT (grown_setCellT w ⟨gs, o, none⟩ v) ih.2⟩
/-- 'clear' of a slice of rows. -/
theorem run_clear_rows {P : Program} (w : World) (t e ty : TypeId) (z : Value) (ht : P.underlying t = some (.slice e)) (hv : ∀ w, (zeroValue e).run P w = .ok z w) (b o n c : Nat) (hn : 0 < n) (zs : List Value) (hz : (Builtin.zeroCells z.cells n).toList = zs) (hone : ∀ v ∈ zs, v.oneCell' = true)
    (hc : ∀ j, j < zs.length → (w.cell? ⟨b, o + j, none⟩).isSome = true) (hf : ∀ j, j < zs.length → w.frozen? ⟨b, o + j, none⟩ = false) :
    (Builtin.clear_ #[t] ty #[.slice (some ⟨b, o, none⟩) n c]).run P w = .ok (.tuple #[]) (w.setCells b o zs) := by
  have hst := run_storeCells_cells (P := P) b o zs 0 w (by simpa using hc) (by simpa using hf) hone
  simp only [Nat.add_zero] at hst
  obtain ⟨m, rfl⟩ : ∃ m, n = m + 1 := ⟨n - 1, by omega⟩
  simp [Builtin.clear_, run_underlying ht, hv, hz, hst]
end Go.Proofs.Ythainmbapikjiaa
