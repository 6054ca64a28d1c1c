/- Two disks: what is done to one doesn't touch the other. -/
import Derived.Test.YthainmbapikjiaaGdafnoheo
namespace Go.Proofs.Ythainmbapikjiaa
open Go.RowKit Go.Sort
set_option linter.unusedVariables false
set_option linter.unusedSimpArgs false
set_option maxRecDepth 100000

/-- They share no block. -/
structure Apart (g gs : Nat) (cv : Value) (g' gs' : Nat) (cv' : Value) : Prop where
  own : g ≠ g'
  secs : gs ≠ gs'
  cache : ∀ k, cv.ownBlock = some k → cv'.ownBlock ≠ some k
theorem Apart.symm {g gs g' gs' : Nat} {cv cv' : Value} (h : Apart g gs cv g' gs' cv') : Apart g' gs' cv' g gs cv := ⟨h.own.symm, h.secs.symm, fun k hk e => h.cache k e hk⟩
theorem disk_lts {B : Nat} {w : World} {g gs : Nat} {cv : Value} {D : DiskD} (h : IsDisk B w g gs cv D) : g < w.heap.size ∧ gs < w.heap.size ∧ ∀ k, cv.ownBlock = some k → k < w.heap.size :=
  ⟨(Array.getElem?_eq_some_iff.1 h.1).1, (Array.getElem?_eq_some_iff.1 h.2.1).1, fun k hk => (World.ownsRow.lt h.2.2.1 k hk).2⟩
/-- A disk made from where the heap ended is apart from one that was there. -/
theorem apart_new {B : Nat} {w : World} {g gs g' gs' : Nat} {cv cv' : Value} {D D' : DiskD} {w' : World} (h : IsDisk B w g gs cv D) (h' : IsDisk w.heap.size w' g' gs' cv' D') : Apart g gs cv g' gs' cv' := by
  obtain ⟨h1, h2, h3⟩ := disk_lts h
  have k1 := h'.2.2.2.2.1
  have k2 := h'.2.2.2.2.2
  refine ⟨by omega, by omega, fun k hk e => ?_⟩
  have := h3 k hk
  have := (World.ownsRow.lt h'.2.2.1 k e).1
  omega
/-- What an act leaves behind is apart from the other disk. -/
theorem Apart.next {w : World} {g gs g' gs' B' : Nat} {cv cv2 cv' : Value} {D' : DiskD} (h : Apart g gs cv g' gs' cv') (hl : Lies w cv cv2) (h' : IsDisk B' w g' gs' cv' D') : Apart g gs cv2 g' gs' cv' := by
  refine ⟨h.own, h.secs, fun k hk e => ?_⟩
  rcases hl with hl | hl
  · exact h.cache k (by rw [← hl]; exact hk) e
  · have := hl k hk
    have := (disk_lts h').2.2 k e
    omega
/-- A disk is kept while another one, apart from it, is changed. -/
theorem IsDisk.keptD {B B' : Nat} {w w' : World} {g gs g' gs' : Nat} {cv cv' : Value} {D D' : DiskD} (h' : IsDisk B' w g' gs' cv' D') (h : IsDisk B w g gs cv D) (ha : Apart g gs cv g' gs' cv') (hk : DKeeps g gs cv w w') : IsDisk B' w' g' gs' cv' D' := by
  have q1 := h.1
  have q2 := h.2.1
  have q3 := disk_cache h
  obtain ⟨h1, h2, h3, h4, h5, h6⟩ := h'
  have hc : ∀ b, cv.ownBlock = some b → ∃ cs, w.heap[b]? = some (.cells cs 130 (0, 0)) := by
    intro b hb
    obtain ⟨_, _, ⟨e, _⟩ | ⟨gc, cap, cur, e, _, hgc, _⟩⟩ := q3
    · rw [e] at hb; cases hb
    · rw [e] at hb
      obtain rfl : gc = b := Option.some.inj hb
      exact ⟨_, hgc⟩
  have n1 : gs ≠ g' := nblock q2 h1 (by decide)
  have n2 : g ≠ gs' := nblock q1 h2 (by decide)
  have n3 : cv.ownBlock ≠ some g' := fun e => by obtain ⟨cs, hcs⟩ := hc _ e; exact nblock hcs h1 (by decide) rfl
  have n4 : cv.ownBlock ≠ some gs' := fun e => by obtain ⟨cs, hcs⟩ := hc _ e; exact nblock hcs h2 (by decide) rfl
  refine ⟨(hk.block g' (Array.getElem?_eq_some_iff.1 h1).1 ha.own.symm n1.symm n3).trans h1, (hk.block gs' (Array.getElem?_eq_some_iff.1 h2).1 n2.symm ha.secs.symm n4).trans h2, ?_, h4, h5, h6⟩
  obtain ⟨k1, ⟨e, k2⟩ | ⟨gc, cap, cur, e, k3, k4, k5⟩⟩ := h3
  · exact ⟨k1, .inl ⟨e, k2⟩⟩
  · refine ⟨k1, .inr ⟨gc, cap, cur, e, k3, ?_, k5⟩⟩
    have m1 : gc ≠ g := fun e9 => nblock k4 q1 (by decide) e9
    have m2 : gc ≠ gs := fun e9 => nblock k4 q2 (by decide) e9
    exact (hk.block gc (Array.getElem?_eq_some_iff.1 k4).1 m1 m2 (fun e9 => ha.cache gc e9 (by rw [e]; rfl))).trans k4
end Go.Proofs.Ythainmbapikjiaa
