/- What the lists of codec share. -/
import Derived.Test.YtplkglepbedhoaaGnblkokme
import Derived.Test.YtplkglepbedhoaaGpgjhjejb
import Derived.Test.YtplkglepbedhoaaGkkjjpanm
namespace Go.Proofs.Ytplkglepbedhoaa
open Go.RowKit Go.Sort
set_option linter.unusedVariables false
set_option linter.unusedSimpArgs false
set_option maxRecDepth 100000

theorem cellsF_row (l : List FldD) (j : Nat) : (cellsF l)[j]? = (rowV l)[j]? := by simp [cellsF, rowV]
theorem itemAt_in {z : List FldD} {L : List (List FldD)} {i : Nat} {x : List FldD} (h : L[i]? = some x) : itemAt z L i = x := by unfold itemAt; rw [List.getD_eq_getElem?_getD, h]; rfl
theorem itemAt_out {z : List FldD} {L : List (List FldD)} {i : Nat} (h : L.length ≤ i) : itemAt z L i = z := by unfold itemAt; rw [List.getD_eq_getElem?_getD, List.getElem?_eq_none h]; rfl
def ReadListPost (t : TypeId) (N : Nat) (w : World) (L : List (List FldD)) (e : Ending) (w' : World) : Prop := Below w.heap.size w w' ∧ ∃ v, e = .returned v ∧ OwnsR' w.heap.size w' t N v (L.map rowV)
def ReadsPost (t : TypeId) (N : Nat) (w : World) (r : List (List FldD) × Int) (e : Ending) (w' : World) : Prop := Below w.heap.size w w' ∧ ∃ a c, e = .returned (.tuple #[.slice a r.1.length c, .int .i64 r.2]) ∧ OwnsR' w.heap.size w' t N (.slice a r.1.length c) (r.1.map rowV)
theorem owned_list {t : TypeId} {N B : Nat} {w : World} {v : Value} {L : List (List FldD)} (h : OwnsR' B w t N v (L.map rowV)) : ∃ a c, v = .slice a L.length c ∧ ReadsR w a N (L.map rowV) ∧ L.length ≤ c := by
  obtain ⟨a, c, e, hr, hc, _⟩ := h.reads
  rw [List.length_map] at e hc
  exact ⟨a, c, e, hr, hc⟩
theorem bO_length {s : List Nat} (hs : s.length = 128) : (bO s).length ≤ 128 := by
  unfold bO
  split
  · unfold bodyL; exact bodyOf_length _ _ _
  · simp
theorem bO_bytes {s : List Nat} (hb : Bytes s) : Bytes (bO s) := by
  unfold bO
  split
  · exact bodyL_byt hb
  · intro x hx; simp at hx
theorem range_bel {B : Nat} {a b : World} (h : Below B a b) {g o : Nat} {cs : List Value} (hg : g < B) (hr : a.rangeAt g o cs) : b.rangeAt g o cs := fun j v hv => (h.cell (p := ⟨g, o + j, none⟩) hg).trans (hr j v hv)
theorem readsPost_up {t : TypeId} {N : Nat} {w w1 : World} {r : List (List FldD) × Int} {e : Ending} {w' : World} (h : Below w.heap.size w w1) (k : ReadsPost t N w1 r e w') : ReadsPost t N w r e w' := by
  obtain ⟨k1, a, c, k2, k3⟩ := k
  exact ⟨below_next h k1, a, c, k2, k3.less h.size⟩
theorem noughts_byt : Bytes noughts := by intro x hx; unfold noughts at hx; have := List.eq_of_mem_replicate hx; omega
theorem lowsF_byt (l : List (Nat × Int)) : Bytes (lowsF l) := by
  intro x hx
  unfold lowsF at hx
  obtain ⟨y, _, hy⟩ := List.mem_flatMap.1 hx
  exact low_bytes _ _ x hy
theorem ReadsR.takeR {w : World} {a : Option Addr} {N : Nat} {l : List (List Value)} (h : ReadsR w a N l) (k : Nat) : ReadsR w a N (l.take k) := by
  refine ⟨fun p hp => h.1 p (List.mem_of_mem_take hp), ?_⟩
  rcases h.2 with h2 | ⟨b, off, e, hb, hc⟩
  · left; subst h2; simp
  · refine .inr ⟨b, off, e, hb, fun i x hi => hc i x ?_⟩
    have e2 : flatR l = flatR (l.take k) ++ flatR (l.drop k) := by rw [← flatR_append, List.take_append_drop]
    rw [e2, List.getElem?_append_left (List.getElem?_eq_some_iff.1 hi).1]
    exact hi
theorem OwnsR'.reads5 {B : Nat} {w : World} {e : TypeId} {k n c : Nat} {a : Option Addr} {l : List (List Value)} (h : OwnsR' B w e k (.slice a n c) l) : ReadsR w a k l := by
  obtain ⟨a', c', e1, h1, _⟩ := h.reads
  cases e1
  exact h1
end Go.Proofs.Ytplkglepbedhoaa
