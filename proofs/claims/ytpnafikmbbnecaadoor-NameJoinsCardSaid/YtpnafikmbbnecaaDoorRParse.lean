/- A path parsed, byte by byte, by the document's walk. -/
import Derived.Test.YtpnafikmbbnecaaDoorPParse3
namespace Go.Proofs.YtpnafikmbbnecaaDoor
open Go.RowKit Go.Sort
set_option linter.unusedVariables false
set_option linter.unusedSimpArgs false
set_option maxRecDepth 100000

/-- The bytes from f to i. -/
def curL (l : Bs) (f i : Nat) : Bs := (l.drop f).take (i - f)
theorem curL_none (l : Bs) (f : Nat) : curL l f f = [] := by unfold curL; simp
theorem curL_more {l : Bs} {f i : Nat} {c : UInt8} (hf : f ≤ i) (hc : l[i]? = some c) : curL l f (i + 1) = curL l f i ++ [c] := by
  unfold curL
  have e : i + 1 - f = (i - f) + 1 := by omega
  have h : (l.drop f)[i - f]? = some c := by rw [List.getElem?_drop, show f + (i - f) = i by omega]; exact hc
  rw [e, List.take_add_one, h]; rfl
/-- Where the bytes stand: pieces that are through, one under way. -/
def Under (l : Bs) (D : List Bs) (f i : Nat) : Prop := (i ≤ l.length ∧ f ≤ i ∧ pieces l = D ++ cutP (curL l f i) (l.drop i)) ∨ (i = l.length + 1 ∧ pieces l = D)
theorem under_start (l : Bs) : Under l [] 0 0 := .inl ⟨Nat.zero_le _, Nat.le_refl _, by rw [curL_none]; rfl⟩
theorem under_other {l : Bs} {D : List Bs} {f i : Nat} {c : UInt8} (h : Under l D f i) (hc : l[i]? = some c) (hne : c ≠ 47) : Under l D f (i + 1) := by
  have hlt := (List.getElem?_eq_some_iff.1 hc).1
  rcases h with ⟨h1, h2, h3⟩ | ⟨h1, _⟩
  · refine .inl ⟨hlt, by omega, ?_⟩
    have e : l.drop i = c :: l.drop (i + 1) := by rw [List.drop_eq_getElem_cons hlt, ← (List.getElem?_eq_some_iff.1 hc).2]
    rw [h3, e, cutP_other hne, curL_more h2 hc]
  · omega
theorem under_slash {l : Bs} {D : List Bs} {f i : Nat} (h : Under l D f i) (hc : l[i]? = some 47) : Under l (D ++ [curL l f i]) (i + 1) (i + 1) := by
  have hlt := (List.getElem?_eq_some_iff.1 hc).1
  rcases h with ⟨h1, h2, h3⟩ | ⟨h1, _⟩
  · refine .inl ⟨hlt, Nat.le_refl _, ?_⟩
    have e : l.drop i = 47 :: l.drop (i + 1) := by rw [List.drop_eq_getElem_cons hlt, ← (List.getElem?_eq_some_iff.1 hc).2]
    rw [h3, e, cutP_slash, curL_none]; simp
  · omega
theorem under_end {l : Bs} {D : List Bs} {f : Nat} (h : Under l D f l.length) : Under l (D ++ [curL l f l.length]) (l.length + 1) (l.length + 1) := by
  rcases h with ⟨h1, h2, h3⟩ | ⟨h1, _⟩
  · refine .inr ⟨rfl, ?_⟩
    rw [h3, List.drop_length]; rfl
  · omega
theorem under_mem {l : Bs} {D : List Bs} {f i : Nat} (h : Under l (D ++ [curL l f i]) (i + 1) (i + 1)) : curL l f i ∈ pieces l ∧ ∃ E, pieces l = D ++ [curL l f i] ++ E := by
  rcases h with ⟨_, _, h3⟩ | ⟨_, h3⟩
  · exact ⟨by rw [h3]; simp, _, h3⟩
  · exact ⟨by rw [h3]; simp, [], by rw [h3, List.append_nil]⟩
theorem parts_many {l : Bs} {D : List Bs} {p : Bs} {E : List Bs} (h : pieces l = D ++ [p] ++ E) (hk : keptB p = true) (h32 : (keepL D).length = 32) : 32 < (partsOf l).length := by
  unfold partsOf
  rw [h]
  have : keepL (D ++ [p] ++ E) = keepL D ++ [p] ++ keepL E := by unfold keepL; simp [hk]
  rw [this]
  simp only [List.length_append, List.length_cons, List.length_nil]
  omega
theorem under_done {l : Bs} {D : List Bs} {f i : Nat} (h : Under l D f i) (hi : ¬ i ≤ l.length) : pieces l = D := by
  rcases h with ⟨h1, _⟩ | ⟨_, h3⟩
  · exact absurd h1 hi
  · exact h3
theorem under_le {l : Bs} {D : List Bs} {f i : Nat} (h : Under l D f i) : i ≤ l.length + 1 ∧ (i ≤ l.length → f ≤ i) := by
  rcases h with ⟨h1, h2, _⟩ | ⟨h1, _⟩
  · exact ⟨by omega, fun _ => h2⟩
  · exact ⟨by omega, fun h => by omega⟩
theorem extract_cur {s : ByteArray} {l : Bs} (h : s.data.toList = l) (f i : Nat) : (s.extract f i).data.toList = curL l f i := by
  rw [Lib.extract_data, h]; rfl
/-- None of the first i is a nought. -/
def NoNul (l : Bs) (i : Nat) : Prop := ∀ j, j < i → l[j]? ≠ some 0
theorem noNul_all {l : Bs} (h : NoNul l l.length) : (0 : UInt8) ∉ l := fun hm => by
  obtain ⟨j, hj, he⟩ := List.getElem_of_mem hm
  exact h j hj (by rw [List.getElem?_eq_getElem hj, he])

/-- Where the document's loop stands. -/
def RLoop (T : TypeId) (l : Bs) (w1 wr : World) (ab : Bool) (i f : Nat) (y : ByteArray) (v : Value) (D : List Bs) : Prop :=
  Under l D f i ∧ y.data.toList = lastNE D ∧ InLoop T w1 wr ab false v D ∧ (keepL D).length ≤ 32
/-- The box of the path, written in its second cell. -/
theorem dir_set {T : TypeId} {w1 wr : World} {ab : Bool} {v : Value} {D : List Bs} (h : InLoop T w1 wr ab false v D) (d : Bool) :
    (wr.setCell ⟨w1.heap.size, 1, none⟩ (.bool d)).heap[w1.heap.size]? = some (.cells #[.bool ab, .bool d, v] T (0, 0)) ∧ OwnsV (w1.heap.size + 1) (wr.setCell ⟨w1.heap.size, 1, none⟩ (.bool d)) 9 v (strsV (keepL D)) ∧
    (∀ k, k ≠ w1.heap.size → (wr.setCell ⟨w1.heap.size, 1, none⟩ (.bool d)).heap[k]? = wr.heap[k]?) := by
  obtain ⟨h1, h2, h3, h4⟩ := h
  refine ⟨?_, ?_, ?_⟩
  · have := heap_setCell_same wr w1.heap.size 1 _ T (.bool d) h1
    simpa using this
  · exact h2.kept (row := some w1.heap.size) ⟨rfl, rfl, rfl, by simp, fun i _ hi => heap_setCell_other wr ⟨w1.heap.size, 1, none⟩ i (.bool d) (fun e => hi (by simp [e]))⟩ (.inr fun e => by have := (h2.lt _ e).1; omega)
  · intro k hk
    exact heap_setCell_other wr ⟨w1.heap.size, 1, none⟩ k (.bool d) hk
theorem lastNE_pieces_tests {y : ByteArray} {p : Bs} (h : y.data.toList = p) : (y.toList == [46]) = (p == [46]) ∧ (y.toList == [46, 46]) = (p == [46, 46]) := by
  rw [txt_tests h]; exact ⟨rfl, rfl⟩

end Go.Proofs.YtpnafikmbbnecaaDoor
