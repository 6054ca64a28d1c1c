/- The document's disk: a write. Printed by wip/gen/rput.py. The document's disk: writes come to it. The document's disk: flushed. The document's disk: crashed. -/
import Derived.Test.YtebkkbmplndcpaaGjpnidkkl
import Derived.Test.YtebkkbmplndcpaaRowsOf
import Derived.Test.YtebkkbmplndcpaaGbcnddjld
import Derived.Test.YtebkkbmplndcpaaGekgpklfl
namespace Go.Proofs.Ytebkkbmplndcpaa
open Go.RowKit Go.Sort
set_option linter.unusedVariables false
set_option linter.unusedSimpArgs false
set_option maxRecDepth 100000

def rowsW (l : List (Nat × List Nat)) : List (List Value) := l.map wrV
theorem rowsW_one (l : List (Nat × List Nat)) : OneRows (rowsW l) := by
  intro p hp u hu
  obtain ⟨x, _, rfl⟩ := List.mem_map.1 hp
  simp only [wrV, List.mem_cons] at hu
  rcases hu with rfl | hu
  · rfl
  · exact byteV_oneCell _ u hu
theorem wrV_oneC (p : Nat × List Nat) : ∀ u ∈ wrV p, u.oneCell' = true := by
  intro u hu
  simp only [wrV, List.mem_cons] at hu
  rcases hu with rfl | hu
  · rfl
  · exact byteV_oneCell _ u hu
theorem five_set {w : World} {g : Nat} {x0 x1 x2 x3 x4 : Value} {t : TypeId} (a b c d e : Value) (h : w.heap[g]? = some (.cells #[x0, x1, x2, x3, x4] t (0, 0))) :
    Five (((((w.setCell ⟨g, 0, none⟩ a).setCell ⟨g, 1, none⟩ b).setCell ⟨g, 2, none⟩ c).setCell ⟨g, 3, none⟩ d).setCell ⟨g, 4, none⟩ e) g a b c d e ∧ w.grownBy (((((w.setCell ⟨g, 0, none⟩ a).setCell ⟨g, 1, none⟩ b).setCell ⟨g, 2, none⟩ c).setCell ⟨g, 3, none⟩ d).setCell ⟨g, 4, none⟩ e) (some g) := by
  have h1 := heap_setCell_same w g 0 _ _ a h
  have h2 := heap_setCell_same _ g 1 _ _ b h1
  have h3 := heap_setCell_same _ g 2 _ _ c h2
  have h4 := heap_setCell_same _ g 3 _ _ d h3
  have h5 := heap_setCell_same _ g 4 _ _ e h4
  have sh := fun (W : World) (A : Addr) (v : Value) => (⟨rfl, rfl, rfl, by simp [World.setCell], fun k hk hne => Below.heap_setCell _ _ _ _ (fun e => hne (by rw [e]))⟩ : W.grownBy (W.setCell A v) (some A.block))
  refine ⟨⟨cell_of_row h5 0, cell_of_row h5 1, cell_of_row h5 2, cell_of_row h5 3, cell_of_row h5 4⟩, ?_⟩
  have tr := fun (A B C : World) (h : A.grownBy B (some g)) (k : B.grownBy C (some g)) => h.andThen k (fun j hj => by cases hj; exact Or.inr rfl)
  exact tr _ _ _ (tr _ _ _ (tr _ _ _ (tr _ _ _ (sh w ⟨g, 0, none⟩ a) (sh _ ⟨g, 1, none⟩ b)) (sh _ ⟨g, 2, none⟩ c)) (sh _ ⟨g, 3, none⟩ d)) (sh _ ⟨g, 4, none⟩ e)
theorem ReadsR.less2 {w w' : World} {a : Option Addr} {k B : Nat} {l : List (List Value)} (h : ReadsR w a k l) (b : Below B w w') (hB : w.heap.size = B) : ReadsR w' a k l := h.below (by rw [hB]; exact b)
theorem grown_setCellD (w : World) (a : Addr) (v : Value) : w.grownBy (w.setCell a v) (some a.block) := ⟨rfl, rfl, rfl, by simp [World.setCell], fun k hk hne => Below.heap_setCell _ _ _ _ (fun e => hne (by rw [e]))⟩
theorem three_at {w w1 : World} {o1 o2 o3 : Obj} (b : Below (((w.alloc o1).alloc o2).alloc o3).heap.size (((w.alloc o1).alloc o2).alloc o3) w1) : Below w.heap.size w w1 ∧ w1.heap[w.heap.size]? = (w.alloc o1).heap[w.heap.size]? ∧ w1.heap[w.heap.size + 1]? = ((w.alloc o1).alloc o2).heap[w.heap.size + 1]? ∧ w1.heap[w.heap.size + 1 + 1]? = (((w.alloc o1).alloc o2).alloc o3).heap[w.heap.size + 1 + 1]? ∧ w.heap.size + 3 ≤ w1.heap.size := by
  have s1 : (w.alloc o1).heap.size = w.heap.size + 1 := by simp
  have s2 : ((w.alloc o1).alloc o2).heap.size = w.heap.size + 1 + 1 := by rw [← s1]; simp
  have s3 : (((w.alloc o1).alloc o2).alloc o3).heap.size = w.heap.size + 1 + 1 + 1 := by rw [← s2]; simp
  have k2 := below_box (w.alloc o1) o2
  have k3 := below_box ((w.alloc o1).alloc o2) o3
  refine ⟨below_next (below_next (below_next (below_box w o1) k2) k3) b, ?_, ?_, b.block _ (by omega), by have := b.size; omega⟩
  · rw [b.block _ (by omega), k3.block _ (by omega), k2.block _ (by omega)]
  · rw [b.block _ (by omega), k3.block _ (by omega)]
end Go.Proofs.Ytebkkbmplndcpaa

namespace Go.Proofs.Ytebkkbmplndcpaa
open Go.RowKit Go.Sort
set_option linter.unusedVariables false
set_option linter.unusedSimpArgs false
set_option maxRecDepth 100000

theorem rows_set {B : Nat} {w : World} {e : TypeId} {k g n cap : Nat} {l : List (List Value)} (h : OwnsR' B w e k (.slice (some ⟨g, 0, none⟩) n cap) l) (hn : l.length = n) {j : Nat} {r : List Value} (hj : j < n) (hr : r.length = k) :
    OwnsR' B (w.setCells g (j * k) r) e k (.slice (some ⟨g, 0, none⟩) n cap) (l.set j r) := by
  obtain ⟨h0, h1, ⟨hv, _⟩ | ⟨g', cap', cur, hv, hB, hg, hc, hm, hs, ht⟩⟩ := h
  · cases hv
  · cases hv
    have hle : j * k + k ≤ l.length * k := by
      have : (j + 1) * k ≤ l.length * k := Nat.mul_le_mul_right _ (by omega)
      rw [Nat.add_mul, Nat.one_mul] at this
      exact this
    have hfl := flatR_length h0
    have hcs : l.length * k ≤ cur.size := by rw [hs]; exact Nat.mul_le_mul_right _ (by omega)
    have hcur : cur.toList = flatR l ++ cur.toList.drop (l.length * k) := by rw [← ht]; exact (List.take_append_drop _ _).symm
    have hh := setCells_heap g e r (j * k) w cur hg (by omega)
    have h0' : ∀ p ∈ l.set j r, p.length = k := by
      intro p hp
      rcases List.mem_or_eq_of_mem_set hp with hp | rfl
      · exact h0 p hp
      · exact hr
    have hsp := flat_splice (fun p : List Value => p) k l h0 j r (by omega) hr
    have hnew : (spliceV cur (j * k) r).toList = flatR (l.set j r) ++ cur.toList.drop (l.length * k) := by
      unfold spliceV
      rw [List.toList_toArray, hcur]
      rw [List.take_append_of_le_length (by omega), List.drop_append_of_le_length (by rw [hr]; omega)]
      have : flatR (l.set j r) = (flatR l).take (j * k) ++ r ++ (flatR l).drop (j * k + r.length) := by
        rw [hr]; exact hsp.symm
      rw [this, List.append_assoc, ← hcur]
      simp only [List.append_assoc]
    have hlen : (flatR (l.set j r)).length = l.length * k := by rw [flatR_length h0', List.length_set]
    refine ⟨h0', by rw [List.length_set, hlen], .inr ⟨g, cap, spliceV cur (j * k) r, by rw [List.length_set, hn], hB, hh, by rw [List.length_set]; exact hc, hm, ?_, ?_⟩⟩
    · have hz1 : (spliceV cur (j * k) r).size = (spliceV cur (j * k) r).toList.length := Array.length_toList.symm
      have hz2 : cur.toList.length = cur.size := Array.length_toList
      rw [hz1, hnew, List.length_append, hlen, List.length_drop, hz2]
      omega
    · rw [List.length_set, hnew, List.take_append_of_le_length (by omega), List.take_of_length_le (by omega)]
def secR (l : List (List Nat)) : List (List Value) := l.map fun s => s.map byteV
theorem secR_one (l : List (List Nat)) : OneRows (secR l) := by
  intro p hp u hu
  obtain ⟨x, _, rfl⟩ := List.mem_map.1 hp
  exact byteV_oneCell _ u hu
/-- What a list of writes may be. -/
def OkZ (n : Nat) (z : List (Nat × List Nat)) : Prop := ∀ p ∈ z, p.1 < n ∧ p.2.length = 128
theorem settles_take {z : List (Nat × List Nat)} {secs : List (List Nat)} {k : Nat} {p : Nat × List Nat} (h : z[k]? = some p) : settles (z.take (k + 1)) secs = (settles (z.take k) secs).set p.1 p.2 := by
  rw [List.take_add_one, h]
  exact settles_snoc _ _ _
theorem settles_len : ∀ (z : List (Nat × List Nat)) (secs : List (List Nat)), (settles z secs).length = secs.length
  | [], _ => rfl
  | p :: z, secs => by
    show (settles z (secs.set p.1 p.2)).length = _
    rw [settles_len z, List.length_set]
theorem secR_set (l : List (List Nat)) (i : Nat) (s : List Nat) : secR (l.set i s) = (secR l).set i (s.map byteV) := by unfold secR; rw [List.map_set]
theorem own_form {B : Nat} {w : World} {e : TypeId} {k : Nat} {v : Value} {l : List (List Value)} (h : OwnsR' B w e k v l) (hl : 1 ≤ l.length) : ∃ g c cs, v = .slice (some ⟨g, 0, none⟩) l.length c ∧ l.length ≤ c ∧ c ≤ maxLen ∧ B ≤ g ∧ w.heap[g]? = some (.cells cs e (0, 0)) ∧ l.length * k ≤ cs.size := by
  obtain ⟨h0, h1, ⟨_, hn⟩ | ⟨g, cap, cur, hv, hB, hg, hc, hm, hs, ht⟩⟩ := h
  · omega
  · exact ⟨g, cap, cur, hv, hc, hm, hB, hg, by rw [hs]; exact Nat.mul_le_mul_right _ hc⟩
theorem nblock {w : World} {a b : Nat} {cs ds : Array Value} {t u : TypeId} {f f' : Nat × Nat} (h : w.heap[a]? = some (.cells cs t f)) (k : w.heap[b]? = some (.cells ds u f')) (hne : t ≠ u) : a ≠ b := by
  rintro rfl
  rw [h] at k
  simp at k
  exact hne k.2.1
end Go.Proofs.Ytebkkbmplndcpaa

namespace Go.Proofs.Ytebkkbmplndcpaa
open Go.RowKit Go.Sort
set_option linter.unusedVariables false
set_option linter.unusedSimpArgs false
set_option maxRecDepth 100000

theorem owns_room {B : Nat} {w : World} {e : TypeId} {k n c : Nat} {a : Option Addr} {l : List (List Value)} (h : OwnsR' B w e k (.slice a n c) l) : ReadsR w a k l ∧ l.length = n ∧ n ≤ c := by
  obtain ⟨a', c', e1, h1, h2, _⟩ := h.reads
  cases e1
  exact ⟨h1, rfl, h2⟩
theorem dead_deed {D : DiskD} (h : D.dead = true) : deedE D = 20 ∧ flushD D = D := by
  have hs : strikeB D = true := by unfold strikeB; rw [h]; rfl
  refine ⟨by unfold deedE; rw [if_pos hs], ?_⟩
  unfold flushD
  rw [if_pos hs]
  unfold strikeD
  rw [hs, Bool.not_true, Bool.and_false, if_neg (by decide)]
  cases D
  simp at h
  subst h
  rfl
theorem flush_yes {D : DiskD} (h : strikeB D = false) : deedE D = 0 ∧ flushD D = { deedD D with secs := settles D.cache D.secs, cache := [] } := by
  refine ⟨by unfold deedE; rw [if_neg (by rw [h]; decide)], ?_⟩
  unfold flushD
  rw [if_neg (by rw [h]; decide)]
theorem flush_no {D : DiskD} (h : strikeB D = true) : deedE D = 20 ∧ flushD D = deedD D := by
  refine ⟨by unfold deedE; rw [if_pos h], ?_⟩
  unfold flushD deedD
  rw [if_pos h, if_pos h]
theorem two_cells {w w1 : World} {C1 C2 : Array Value} {t1 t2 : TypeId} (b : Below ((w.alloc (.cells C1 t1)).alloc (.cells C2 t2)).heap.size ((w.alloc (.cells C1 t1)).alloc (.cells C2 t2)) w1) :
    Below w.heap.size w w1 ∧ w1.heap[w.heap.size]? = some (.cells C1 t1 (0, 0)) ∧ w1.heap[w.heap.size + 1]? = some (.cells C2 t2 (0, 0)) ∧ w.heap.size + 2 ≤ w1.heap.size := by
  have s1 : (w.alloc (.cells C1 t1)).heap.size = w.heap.size + 1 := by simp
  have s2 : ((w.alloc (.cells C1 t1)).alloc (.cells C2 t2)).heap.size = w.heap.size + 1 + 1 := by rw [← s1]; simp
  have k2 := below_box (w.alloc (.cells C1 t1)) (.cells C2 t2)
  refine ⟨below_next (below_next (below_box w (.cells C1 t1)) k2) b, ?_, ?_, by have := b.size; omega⟩
  · rw [b.block _ (by omega), k2.block _ (by omega), heap_alloc_new]
  · rw [b.block _ (by omega), ← s1, heap_alloc_new]
end Go.Proofs.Ytebkkbmplndcpaa

namespace Go.Proofs.Ytebkkbmplndcpaa
open Go.RowKit Go.Sort
set_option linter.unusedVariables false
set_option linter.unusedSimpArgs false
set_option maxRecDepth 100000

theorem five_heap {w : World} {g : Nat} {x0 x1 x2 x3 x4 : Value} {t : TypeId} (a b c d e : Value) (h : w.heap[g]? = some (.cells #[x0, x1, x2, x3, x4] t (0, 0))) :
    (((((w.setCell ⟨g, 0, none⟩ a).setCell ⟨g, 1, none⟩ b).setCell ⟨g, 2, none⟩ c).setCell ⟨g, 3, none⟩ d).setCell ⟨g, 4, none⟩ e).heap[g]? = some (.cells #[a, b, c, d, e] t (0, 0)) := by
  have h1 := heap_setCell_same w g 0 _ _ a h
  have h2 := heap_setCell_same _ g 1 _ _ b h1
  have h3 := heap_setCell_same _ g 2 _ _ c h2
  have h4 := heap_setCell_same _ g 3 _ _ d h3
  exact heap_setCell_same _ g 4 _ _ e h4
theorem keeps_mem {C : List (Nat × List Nat)} {ks : List Bool} {k : Nat} {p : Nat × List Nat} (h : p ∈ keepsZ ((C.zip ks).take k)) : p ∈ C := by
  unfold keepsZ at h
  rw [List.mem_filterMap] at h
  obtain ⟨⟨q, b⟩, hq, he⟩ := h
  have h1 : q ∈ C := (List.of_mem_zip (List.mem_of_mem_take hq)).1
  cases b <;> simp at he
  rw [← he]
  exact h1
theorem keeps_len (C : List (Nat × List Nat)) (ks : List Bool) (k : Nat) : (keepsZ ((C.zip ks).take k)).length ≤ C.length := by
  unfold keepsZ
  refine Nat.le_trans (List.length_filterMap_le _ _) ?_
  rw [List.length_take, List.length_zip]
  omega
end Go.Proofs.Ytebkkbmplndcpaa
