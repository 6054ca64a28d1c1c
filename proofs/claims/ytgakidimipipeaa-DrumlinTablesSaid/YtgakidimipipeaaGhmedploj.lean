/- The document's fields: in how many bytes a number stands, and the number. What the lists of codec share. -/
import Derived.Test.YtgakidimipipeaaGaefblgki
import Derived.Test.YtgakidimipipeaaOpenRec
import Derived.Test.YtgakidimipipeaaGodngmhjg
namespace Go.Proofs.Ytgakidimipipeaa
open Go.RowKit Go.Sort
set_option linter.unusedVariables false
set_option linter.unusedSimpArgs false
set_option maxRecDepth 100000

def fieldsP (l : List FldD) : List (Nat × Int) := l.map fun x => (x.width, x.z)
def fieldV (x : Nat × Int) : List Value := [.int .i64 (x.1 : Int), .int .i64 x.2]
def FldOk (x : FldD) : Prop := 1 ≤ x.width ∧ x.width ≤ 4 ∧ I64 x.z
theorem fieldsP_append (l m : List FldD) : fieldsP (l ++ m) = fieldsP l ++ fieldsP m := by unfold fieldsP; rw [List.map_append]
theorem fieldsP_length (l : List FldD) : (fieldsP l).length = l.length := by unfold fieldsP; rw [List.length_map]
theorem info_field : (Try.prog.info? 172).map (fun i => (i.zero, i.size, i.bytes)) = some (some (.agg #[.int .i64 0, .int .i64 0]), 2, 16) := by kernel_rfl
theorem okF_iff {x : FldD} (h : FldOk x) : okF (x.width, x.z) ↔ u64of x.z < 256 ^ x.width := by
  obtain ⟨h1, h2, h3⟩ := h
  unfold okF u64of
  unfold I64 at h3
  dsimp only
  have hp : 256 ^ x.width ≤ 4294967296 := Nat.le_trans (Nat.pow_le_pow_right (by omega) h2) (by decide)
  generalize 256 ^ x.width = p at *
  constructor
  · rintro ⟨a, b⟩
    omega
  · intro a
    by_cases hz : 0 ≤ x.z
    · exact ⟨hz, by omega⟩
    · omega
theorem okFs_iff {l : List FldD} (h : ∀ x ∈ l, FldOk x) : okFs (fieldsP l) ↔ roomU l := by
  unfold okFs roomU fieldsP
  constructor
  · intro k x hx
    exact (okF_iff (h x hx)).1 (k _ (List.mem_map.2 ⟨x, hx, rfl⟩))
  · intro k y hy
    obtain ⟨x, hx, rfl⟩ := List.mem_map.1 hy
    exact (okF_iff (h x hx)).2 (k x hx)
theorem lowsF_is : ∀ {l : List FldD}, (∀ x ∈ l, FldOk x) → roomU l → lowsF (fieldsP l) = lowsU l
  | [], _, _ => rfl
  | x :: l, h, hr => by
    have ih := lowsF_is (l := l) (fun y hy => h y (by simp [hy])) (fun y hy => hr y (by simp [hy]))
    have this := (okF_iff (h x (by simp))).2 (hr x (by simp))
    have e : u64of x.z = x.z.toNat := by
      have h0 : 0 ≤ x.z := this.1
      have h3 := (h x (by simp)).2.2
      unfold I64 at h3
      unfold u64of
      omega
    show low x.z.toNat x.width ++ lowsF (fieldsP l) = low (u64of x.z) x.width ++ lowsU l
    rw [ih, e]
theorem lowsF_len (l : List FldD) : (lowsF (fieldsP l)).length = widths l := by
  induction l with
  | nil => rfl
  | cons x l ih =>
    show (low x.z.toNat x.width ++ lowsF (fieldsP l)).length = x.width + widths l
    rw [List.length_append, low_length, ih]
theorem fieldsP_ok {l : List FldD} (h : ∀ x ∈ l, FldOk x) : ∀ x ∈ fieldsP l, 1 ≤ x.1 ∧ x.1 ≤ 8 ∧ I64 x.2 := by
  intro y hy
  obtain ⟨x, hx, rfl⟩ := List.mem_map.1 hy
  obtain ⟨h1, h2, h3⟩ := h x hx
  exact ⟨h1, by dsimp only; omega, h3⟩
theorem fieldV_len (l : List (Nat × Int)) : ∀ p ∈ l.map fieldV, p.length = 2 := by
  intro p hp
  obtain ⟨x, _, rfl⟩ := List.mem_map.1 hp
  rfl
theorem readsF_of {w : World} {a : Option Addr} {l : List (Nat × Int)} (h : ReadsR w a 2 (l.map fieldV)) : ReadsF w a l.length l := by
  refine ⟨rfl, ?_⟩
  by_cases hl : l = []
  · exact .inl hl
  · obtain ⟨_, h2 | ⟨b, off, e, hb, hc⟩⟩ := h
    · exact absurd (List.map_eq_nil_iff.1 h2) hl
    · refine .inr ⟨b, off, e, hb, fun i q z hi => ?_⟩
      have hg : (l.map fieldV)[i]? = some [.int .i64 (q : Int), .int .i64 z] := by rw [List.getElem?_map, hi]; rfl
      have g0 := flatR_get (fieldV_len l) hg (show 0 < 2 by decide)
      have g1 := flatR_get (fieldV_len l) hg (show 1 < 2 by decide)
      have c0 := hc _ _ (g0.trans rfl)
      have c1 := hc _ _ (g1.trans rfl)
      exact ⟨c0, by rw [← Nat.add_assoc] at c1; exact c1⟩
/-- Rows of a literal just laid. -/
theorem readsR_new {k : Nat} (w : World) (t : TypeId) {l : List (List Value)} {cs : Array Value} (hl : ∀ p ∈ l, p.length = k) (hcs : cs.toList = flatR l) : ReadsR (w.alloc (.cells cs t)) (some ⟨w.heap.size, 0, none⟩) k l := by
  refine ⟨hl, .inr ⟨w.heap.size, 0, rfl, by simp, fun i u hi => ?_⟩⟩
  rw [Nat.zero_add, cell_of_row (heap_alloc_new w _)]
  rw [← hcs] at hi
  simpa using hi
theorem fieldV_one (l : List (Int × Int)) : OneRows (l.map fun x => [Value.int .i64 x.1, Value.int .i64 x.2]) := by
  intro p hp u hu
  obtain ⟨x, _, rfl⟩ := List.mem_map.1 hp
  simp only [List.mem_cons, List.not_mem_nil, or_false] at hu
  rcases hu with rfl | rfl <;> rfl
end Go.Proofs.Ytgakidimipipeaa

namespace Go.Proofs.Ytgakidimipipeaa
open Go.RowKit Go.Sort
set_option linter.unusedVariables false
set_option linter.unusedSimpArgs false
set_option maxRecDepth 100000

theorem cellsF_row (l : List FldD) (j : Nat) : (cellsF l)[j]? = (rowV l)[j]? := by simp [cellsF, rowV]
theorem itemAt_in {z : List FldD} {L : List (List FldD)} {i : Nat} {x : List FldD} (h : L[i]? = some x) : itemAt z L i = x := by unfold itemAt; rw [List.getD_eq_getElem?_getD, h]; rfl
theorem itemAt_out {z : List FldD} {L : List (List FldD)} {i : Nat} (h : L.length ≤ i) : itemAt z L i = z := by unfold itemAt; rw [List.getD_eq_getElem?_getD, List.getElem?_eq_none h]; rfl
def ReadListPost (t : TypeId) (N : Nat) (w : World) (L : List (List FldD)) (e : Ending) (w' : World) : Prop := Below w.heap.size w w' ∧ ∃ v, e = .returned v ∧ OwnsR' w.heap.size w' t N v (L.map rowV)
def ReadsPost (t : TypeId) (N : Nat) (w : World) (r : List (List FldD) × Int) (e : Ending) (w' : World) : Prop := Below w.heap.size w w' ∧ ∃ a c, e = .returned (.tuple #[.slice a r.1.length c, .int .i64 r.2]) ∧ OwnsR' w.heap.size w' t N (.slice a r.1.length c) (r.1.map rowV)
theorem owned_list {t : TypeId} {N B : Nat} {w : World} {v : Value} {L : List (List FldD)} (h : OwnsR' B w t N v (L.map rowV)) : ∃ a c, v = .slice a L.length c ∧ ReadsR w a N (L.map rowV) ∧ L.length ≤ c := by
  obtain ⟨a, c, e, hr, hc, _⟩ := h.reads
  rw [List.length_map] at e hc
  exact ⟨a, c, e, hr, hc⟩
theorem bO_length {s : List Nat} (hs : s.length = 128) : (bO s).length ≤ 128 := by
  unfold bO
  split
  · unfold bodyL; exact bodyOf_length _ _ _
  · simp
theorem bO_bytes {s : List Nat} (hb : Bytes s) : Bytes (bO s) := by
  unfold bO
  split
  · exact bodyL_byt hb
  · intro x hx; simp at hx
theorem range_bel {B : Nat} {a b : World} (h : Below B a b) {g o : Nat} {cs : List Value} (hg : g < B) (hr : a.rangeAt g o cs) : b.rangeAt g o cs := fun j v hv => (h.cell (p := ⟨g, o + j, none⟩) hg).trans (hr j v hv)
theorem readsPost_up {t : TypeId} {N : Nat} {w w1 : World} {r : List (List FldD) × Int} {e : Ending} {w' : World} (h : Below w.heap.size w w1) (k : ReadsPost t N w1 r e w') : ReadsPost t N w r e w' := by
  obtain ⟨k1, a, c, k2, k3⟩ := k
  exact ⟨below_next h k1, a, c, k2, k3.less h.size⟩
theorem noughts_byt : Bytes noughts := by intro x hx; unfold noughts at hx; have := List.eq_of_mem_replicate hx; omega
theorem lowsF_byt (l : List (Nat × Int)) : Bytes (lowsF l) := by
  intro x hx
  unfold lowsF at hx
  obtain ⟨y, _, hy⟩ := List.mem_flatMap.1 hx
  exact low_bytes _ _ x hy
theorem ReadsR.takeR {w : World} {a : Option Addr} {N : Nat} {l : List (List Value)} (h : ReadsR w a N l) (k : Nat) : ReadsR w a N (l.take k) := by
  refine ⟨fun p hp => h.1 p (List.mem_of_mem_take hp), ?_⟩
  rcases h.2 with h2 | ⟨b, off, e, hb, hc⟩
  · left; subst h2; simp
  · refine .inr ⟨b, off, e, hb, fun i x hi => hc i x ?_⟩
    have e2 : flatR l = flatR (l.take k) ++ flatR (l.drop k) := by rw [← flatR_append, List.take_append_drop]
    rw [e2, List.getElem?_append_left (List.getElem?_eq_some_iff.1 hi).1]
    exact hi
theorem OwnsR'.reads5 {B : Nat} {w : World} {e : TypeId} {k n c : Nat} {a : Option Addr} {l : List (List Value)} (h : OwnsR' B w e k (.slice a n c) l) : ReadsR w a k l := by
  obtain ⟨a', c', e1, h1, _⟩ := h.reads
  cases e1
  exact h1
end Go.Proofs.Ytgakidimipipeaa
