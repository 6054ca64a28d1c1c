/- A write of the disk's cache comes to the disk, by its walk. -/
import Derived.Test.YtebkkbmplndcpaaGaopiilbe
import Derived.Deep.RegionHeld3
import Derived.Deep.WholeRow
namespace Go.Proofs.Ytebkkbmplndcpaa
open Go.RowKit Go.Sort
set_option linter.unusedVariables false
set_option maxRecDepth 100000

/-- Cells stored one behind the other, in a block that is known whole. -/
def spliceV (cs : Array Value) (o : Nat) (vs : List Value) : Array Value := (cs.toList.take o ++ vs ++ cs.toList.drop (o + vs.length)).toArray
theorem setCells_heap (b : Nat) (t : TypeId) : ∀ (vs : List Value) (o : Nat) (w : World) (cs : Array Value), w.heap[b]? = some (.cells cs t (0, 0)) → o + vs.length ≤ cs.size →
    (w.setCells b o vs).heap[b]? = some (.cells (spliceV cs o vs) t (0, 0))
  | [], o, w, cs, h, hs => by
    simp only [World.setCells]
    rw [h]
    congr 2
    simp [spliceV]
  | v :: vs, o, w, cs, h, hs => by
    simp only [List.length_cons] at hs
    have h1 := heap_setCell_same w b o _ _ v h
    have ih := setCells_heap b t vs (o + 1) (w.setCell ⟨b, o, none⟩ v) (cs.setIfInBounds o v) h1 (by simp; omega)
    simp only [World.setCells]
    rw [ih]
    congr 2
    unfold spliceV
    congr 1
    rw [Array.toList_setIfInBounds]
    have e1 : (cs.toList.set o v).take (o + 1) = cs.toList.take o ++ [v] := by
      rw [List.take_succ_eq_append_getElem (by simp; omega), List.take_set, List.set_eq_of_length_le (by simp; omega)]
      simp
    have e2 : (cs.toList.set o v).drop (o + 1 + vs.length) = cs.toList.drop (o + (vs.length + 1)) := by
      rw [List.drop_set_of_lt (by omega)]
      congr 1
      omega
    rw [e1, e2]
    simp
theorem setCells_other (b k : Nat) (hk : k ≠ b) : ∀ (vs : List Value) (o : Nat) (w : World), (w.setCells b o vs).heap[k]? = w.heap[k]?
  | [], o, w => rfl
  | v :: vs, o, w => by
    simp only [World.setCells]
    rw [setCells_other b k hk vs (o + 1)]
    exact Below.heap_setCell _ _ _ _ hk
theorem setCells_cell {b k : Nat} (hk : k ≠ b) (o off : Nat) (vs : List Value) (w : World) : (w.setCells b o vs).cell? ⟨k, off, none⟩ = w.cell? ⟨k, off, none⟩ :=
  World.cell?_of_block (w := w) (a := ⟨k, off, none⟩) (setCells_other b k hk vs o w)
theorem only_drew (g : Nat) (w : World) : Only g w w.drew := ⟨rfl, rfl, rfl, rfl, fun _ _ => rfl⟩
theorem setCells_only (g : Nat) : ∀ (vs : List Value) (o : Nat) (w : World), Only g w (w.setCells g o vs)
  | [], o, w => Only.refl g w
  | v :: vs, o, w => by
    simp only [World.setCells]
    exact ((Only.refl g w).setCell o v).trans (setCells_only g vs (o + 1) _)

theorem flat_splice {α : Type} (f : α → List Value) (n : Nat) : ∀ (l : List α), (∀ x ∈ l, (f x).length = n) → ∀ (i : Nat) (y : α), i < l.length → (f y).length = n →
    (l.flatMap f).take (i * n) ++ f y ++ (l.flatMap f).drop (i * n + n) = (l.set i y).flatMap f
  | [], _, i, y, hi, _ => by simp at hi
  | x :: l, h, i, y, hi, hy => by
    have hx := h x (by simp)
    cases i with
    | zero =>
      simp only [List.flatMap_cons, Nat.zero_mul, List.take_zero, List.nil_append, Nat.zero_add, List.set_cons_zero]
      rw [← hx, List.drop_left']
      rfl
    | succ i =>
      have ih := flat_splice f n l (fun z hz => h z (by simp [hz])) i y (by simpa using hi) hy
      simp only [List.flatMap_cons, List.set_cons_succ]
      rw [← ih]
      have e0 : (i + 1) * n = n + i * n := by rw [Nat.add_mul, Nat.one_mul, Nat.add_comm]
      generalize l.flatMap f = R at *
      rw [e0]
      have t1 : (f x ++ R).take (n + i * n) = f x ++ R.take (i * n) := by
        rw [List.take_append, List.take_of_length_le (by omega), hx, Nat.add_sub_cancel_left]
      have t2 : (f x ++ R).drop (n + i * n + n) = R.drop (i * n + n) := by
        rw [List.drop_append, List.drop_of_length_le (by omega), hx, List.nil_append]
        congr 1
        omega
      rw [t1, t2]
      simp [List.append_assoc]
theorem flat_length {α : Type} (f : α → List Value) (n : Nat) : ∀ (l : List α), (∀ x ∈ l, (f x).length = n) → (l.flatMap f).length = l.length * n
  | [], _ => by simp
  | x :: l, h => by
    simp only [List.flatMap_cons, List.length_append, List.length_cons]
    rw [h x (by simp), flat_length f n l (fun z hz => h z (by simp [hz])), Nat.add_mul, Nat.one_mul, Nat.add_comm]
theorem flat_at {α : Type} (f : α → List Value) (n : Nat) : ∀ (l : List α), (∀ x ∈ l, (f x).length = n) → ∀ (i : Nat) (y : α), l[i]? = some y → ∀ j u, (f y)[j]? = some u → (l.flatMap f)[i * n + j]? = some u
  | [], _, i, y, hi => by simp at hi
  | x :: l, h, i, y, hi => by
    intro j u hu
    have hx := h x (by simp)
    cases i with
    | zero =>
      simp at hi
      subst hi
      simp only [List.flatMap_cons, Nat.zero_mul, Nat.zero_add]
      rw [List.getElem?_append_left (List.getElem?_eq_some_iff.1 hu).1]
      exact hu
    | succ i =>
      simp only [List.flatMap_cons]
      have e0 : (i + 1) * n = n + i * n := by rw [Nat.add_mul, Nat.one_mul, Nat.add_comm]
      rw [List.getElem?_append_right (by omega), hx, show (i + 1) * n + j - n = i * n + j by omega]
      exact flat_at f n l (fun z hz => h z (by simp [hz])) i y (by simpa using hi) j u hu

theorem secV_one (l : List (List Nat)) : ∀ u ∈ secV l, u.oneCell' = true := by
  intro u hu
  simp only [secV, List.mem_flatMap] at hu
  obtain ⟨s, _, hs⟩ := hu
  exact byteV_oneCell s u hs
theorem wrV_length {p : Nat × List Nat} (h : p.2.length = 128) : (wrV p).length = 129 := by simp [wrV, h]
theorem DiskD.ok.sec {D : DiskD} (h : D.ok) : ∀ s ∈ D.secs, (s.map byteV).length = 128 := fun s hs => by rw [List.length_map]; exact (h.1 s hs).1
theorem DiskD.ok.wr {D : DiskD} (h : D.ok) : ∀ p ∈ D.cache, (wrV p).length = 129 := fun p hp => wrV_length (h.2.1 p hp).2.1
theorem DiskD.ok.secs_size {D : DiskD} (h : D.ok) : (secV D.secs).length = D.secs.length * 128 := flat_length _ 128 _ h.sec

theorem spliceV_append (A J vs : List Value) (o : Nat) (h : o + vs.length ≤ A.length) : spliceV (A ++ J).toArray o vs = ((A.take o ++ vs ++ A.drop (o + vs.length)) ++ J).toArray := by
  unfold spliceV
  congr 1
  show (A ++ J).take o ++ vs ++ (A ++ J).drop (o + vs.length) = _
  rw [List.take_append_of_le_length (by omega), List.drop_append_of_le_length h]
  simp [List.append_assoc]
def settleD (D : DiskD) (i : Nat) : DiskD := match D.cache[i]? with
  | some p => { D with secs := D.secs.set p.1 p.2 }
  | none => D

end Go.Proofs.Ytebkkbmplndcpaa
