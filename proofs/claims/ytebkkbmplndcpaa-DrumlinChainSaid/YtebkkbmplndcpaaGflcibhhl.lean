/- A write's own cells, as its literal and the literal slice about it make them. A disk's Write, told by its walk. -/
import Derived.Deep.AppendLies
import Derived.Test.YtebkkbmplndcpaaGekgpklfl
import Derived.Deep.MidRow
import Derived.Great.BuildSlice
import Derived.Great.FillDense
namespace Go.Proofs.Ytebkkbmplndcpaa
open Go.RowKit Go.Sort
set_option linter.unusedVariables false
set_option maxRecDepth 100000

theorem wrV_size (p : Nat × List Nat) : (wrV p).length = p.2.length + 1 := by simp [wrV]

/-! ### A step of a drawn region each -/
theorem cacheV_snoc (l : List (Nat × List Nat)) (p : Nat × List Nat) : cacheV (l ++ [p]) = cacheV l ++ wrV p := by simp [cacheV]
def pushD (D : DiskD) (p : Nat × List Nat) : DiskD := { D with cache := D.cache ++ [p] }
end Go.Proofs.Ytebkkbmplndcpaa

namespace Go.Proofs.Ytebkkbmplndcpaa
open Go.RowKit Go.Sort
set_option linter.unusedVariables false
set_option linter.unusedSimpArgs false
set_option maxRecDepth 100000

def writeD (D : DiskD) (at_ : Int) (s : List Nat) : DiskD := if refI D at_ ≠ 0 then D else deedD (pushD D (at_.toNat, s))
def writeE (D : DiskD) (at_ : Int) : Int := if refI D at_ ≠ 0 then refI D at_ else deedE D
theorem refI_zero {D : DiskD} {at_ : Int} (h : refI D at_ = 0) : (0 ≤ at_ ∧ at_ < (D.secs.length : Int)) ∧ D.dead = false := by
  unfold refI at h
  split at h
  · cases h
  · rename_i h1
    split at h
    · cases h
    · rename_i h2
      exact ⟨by omega, by simpa using h2⟩
theorem ranges_below {B : Nat} {a b : World} (h : Below B a b) {g o : Nat} {cs : List Value} (hg : g < B) (hr : a.rangeAt g o cs) : b.rangeAt g o cs := fun j v hv => (h.cell (p := ⟨g, o + j, none⟩) hg).trans (hr j v hv)
theorem range_of {w : World} {g : Nat} {s : List Nat} {t : TypeId} (h : w.heap[g]? = some (.cells (cells s) t (0, 0))) : w.rangeAt g 0 (s.map byteV) := fun j v hv => by
  unfold World.cell?
  simp only [h, cells, List.getElem?_toArray, Nat.zero_add]
  exact hv

theorem fold_cell (l : List Value) (hl : l.length = 129) (cs : Array Value) (hc : cs.size = 129) : List.foldl (fun (cs : Array Value) (x : Value × Nat) => cs.setIfInBounds x.snd x.fst) cs l.zipIdx = l.toArray := by
  have h := fold_splice 0 l 0 cs (by omega)
  simp only [Nat.zero_add, List.take_zero, List.nil_append] at h
  rw [h, List.drop_of_length_le (by simp; omega), List.append_nil]

theorem own_slice {w : World} {B : Nat} {e : TypeId} {size : Nat} {v : Value} {n : Nat} {xs : List Value} (h : w.ownsRow B e size v n xs) : ∃ a l c, v = .slice a l c := by
  obtain ⟨_, ⟨rfl, _⟩ | ⟨gc, cap, cur, rfl, _⟩⟩ := h
  · exact ⟨_, _, _, rfl⟩
  · exact ⟨_, _, _, rfl⟩
theorem range_set {w : World} {m g : Nat} {cs : List Value} (hne : m ≠ g) (v : Value) (h : w.rangeAt m 0 cs) : (w.setCell ⟨g, 4, none⟩ v).rangeAt m 0 cs := fun j u hu =>
  (World.cell?_of_block (w := w) (w' := w.setCell ⟨g, 4, none⟩ v) (a := ⟨m, 0 + j, none⟩) (Below.heap_setCell _ _ _ _ hne)).trans (h j u hu)
/-- The box of the sector that is written is none of the disk's. -/
theorem write_kept {w w2 w3 : World} {cv : Value} {g m : Nat} {cs : List Value} (g3 : w2.grownBy w3 cv.ownBlock) (b2 : Below w.heap.size w w2) (hg : g < w.heap.size) (hm : m < w.heap.size) (hne : ∀ k, cv.ownBlock = some k → k ≠ g) (hnm : ∀ k, cv.ownBlock = some k → k ≠ m)
    (h4 : w.cell? ⟨g, 4, none⟩ = some cv) (hf : w.frozen? ⟨g, 4, none⟩ = false) (hr : w.rangeAt m 0 cs) : (w3.cell? ⟨g, 4, none⟩ = some cv ∧ w3.rangeAt m 0 cs) ∧ w3.frozen? ⟨g, 4, none⟩ = false := by
  have e1 : w3.heap[g]? = w.heap[g]? := (g3.block g (Nat.lt_of_lt_of_le hg b2.size) (fun e => hne g e.symm rfl)).trans (b2.block g hg)
  have e2 : w3.heap[m]? = w.heap[m]? := (g3.block m (Nat.lt_of_lt_of_le hm b2.size) (fun e => hnm m e.symm rfl)).trans (b2.block m hm)
  refine ⟨⟨(World.cell?_of_block (a := ⟨g, 4, none⟩) e1).trans h4, fun j v hv => (World.cell?_of_block (a := ⟨m, 0 + j, none⟩) e2).trans (hr j v hv)⟩, (World.frozen?_of_block (a := ⟨g, 4, none⟩) e1).trans hf⟩

theorem DKeeps.of_below {g gs : Nat} {cv : Value} {w w' : World} (b : Below w.heap.size w w') : DKeeps g gs cv w w' := ⟨b.os, b.tape, b.output, b.size, fun k hk _ _ _ => b.block k hk⟩

/-- A new slice is where the old one was, or it is new. -/
def Lies (w : World) (cv cv' : Value) : Prop := cv'.ownBlock = cv.ownBlock ∨ ∀ k, cv'.ownBlock = some k → w.heap.size ≤ k
theorem lies_of {w : World} {n : Nat} {cv cv' : Value} (hn : w.heap.size ≤ n) (h : cv'.ownBlock = cv.ownBlock ∨ cv'.ownBlock = some n) : Lies w cv cv' := by
  rcases h with h | h
  · exact .inl h
  · right
    intro k hk
    rw [h] at hk
    cases hk
    exact hn
end Go.Proofs.Ytebkkbmplndcpaa
