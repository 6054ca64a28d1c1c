/- What is written of parts, and read back of a sector: no law is spoken of. -/
import Derived.Test.YtdgmkobjdhmkdaaParts
import Derived.Test.YtdgmkobjdhmkdaaFull
namespace Go.Proofs.Ytdgmkobjdhmkdaa
open Go.RowKit
set_option linter.unusedVariables false
set_option maxRecDepth 100000

/-- A part in a block of its own. -/
theorem new_part (w : World) (p : PartD) : ∀ j u, p.vals[j]? = some u → (w.alloc (.cells #[.int .i64 p.q, .int .u64 (p.n : Int), .bool p.raw, .slice p.a p.len p.cap] 98)).cell? ⟨w.heap.size, 0 + j, none⟩ = some u := fun j u h => by
  rw [cell_of_row _ _ _ _ _ _ (heap_alloc_new w _), Nat.zero_add]
  simpa [PartD.vals] using h

/-- What the walk is told of one part. -/
theorem Parts.at {w : World} {a : Option Addr} {len : Nat} {ps : List PartD} (h : Parts w a len ps) {k : Nat} (hk : k < len) : ∃ p b off, ps[k]? = some p ∧ a = some ⟨b, off, none⟩ ∧ b < w.heap.size ∧ PartAt w b (off + k * 4) p := by
  obtain ⟨h1, h2⟩ := h
  have hp : ps[k]? = some (ps[k]'(by omega)) := List.getElem?_eq_getElem _
  rcases h2 with rfl | ⟨b, off, rfl, hb, hc⟩
  · simp at h1; omega
  · exact ⟨_, b, off, hp, rfl, hb, hc k _ hp⟩

def stepP (st : List Nat × Bool) (p : PartD) : List Nat × Bool := if p.raw then wBytes st p.q p.b else wNum st p.q p.n

def runL (ps : List PartD) : List Nat × Bool := ps.foldl stepP ([], false)

theorem runL_step {ps : List PartD} {k : Nat} {p : PartD} (h : ps[k]? = some p) : stepP (runL (ps.take k)) p = runL (ps.take (k + 1)) := by
  unfold runL
  rw [List.take_add_one, h]
  simp

theorem IsWriter.alloc {w : World} {g : Nat} {l : List Nat} {f : Bool} (h : IsWriter w g l f) (o : Obj) : IsWriter (w.alloc o) g l f :=
  ⟨h.1, h.2.1, by rw [Below.heap_alloc w _ _ (Array.getElem?_eq_some_iff.1 h.2.2).1]; exact h.2.2⟩

theorem stepP_failed (st : List Nat × Bool) (p : PartD) (h : st.2 = true) : (stepP st p).2 = true := by
  unfold stepP
  split
  · exact wBytes_failed _ _ _ h
  · exact wNum_failed _ _ _ h

theorem foldP_failed (ps : List PartD) : ∀ st : List Nat × Bool, st.2 = true → (ps.foldl stepP st).2 = true := by
  induction ps with
  | nil => intro st h; exact h
  | cons p ps ih => intro st h; exact ih _ (stepP_failed st p h)

theorem runL_failed {ps : List PartD} (k : Nat) (h : (runL (ps.take k)).2 = true) : (runL ps).2 = true := by
  have e : runL ps = (ps.drop k).foldl stepP (runL (ps.take k)) := by
    unfold runL
    rw [← List.foldl_append, List.take_append_drop]
  rw [e]
  exact foldP_failed _ _ h

theorem runL_ok {ps : List PartD} (k : Nat) (h : (runL ps).2 = false) : (runL (ps.take k)).2 = false := by
  cases h' : (runL (ps.take k)).2 with
  | false => rfl
  | true => rw [runL_failed k h'] at h; cases h

/-- The bytes of a part that has room. -/
def piece (p : PartD) : List Nat := if p.raw then p.b ++ List.replicate (p.q.toNat - p.b.length) 0 else low p.n p.q.toNat

/-- Has it room behind so many? -/
def fitsP (at_ : Nat) (p : PartD) : Prop := p.q ≤ 128 - (at_ : Int) ∧ (if p.raw then (p.b.length : Int) ≤ p.q else hasB p.q p.n = true)

theorem stepP_yes {L : List Nat} {p : PartD} (h : fitsP L.length p) : stepP (L, false) p = (L ++ piece p, false) := by
  obtain ⟨h1, h2⟩ := h
  unfold stepP piece
  split
  · rename_i hr
    rw [if_pos hr] at h2
    unfold wBytes
    rw [if_neg (by simp), if_pos ⟨h2, h1⟩, List.append_assoc]
  · rename_i hr
    rw [if_neg hr] at h2
    have h3 := of_decide_eq_true h2
    unfold wNum
    rw [if_neg (by simp), if_pos (by simp only [h2, Bool.and_true]; exact roomB_mk ⟨h3.1, h3.2.1, by omega, by show (L.length : Int) + p.q ≤ (128 : Nat); omega⟩)]

theorem stepP_no {L : List Nat} {p : PartD} (h : ¬ fitsP L.length p) : stepP (L, false) p = (L, true) := by
  unfold fitsP at h
  unfold stepP
  split
  · rename_i hr
    rw [if_pos hr] at h
    unfold wBytes
    rw [if_neg (by simp), if_neg (fun h' => h ⟨h'.2, h'.1⟩)]
  · rename_i hr
    rw [if_neg hr] at h
    unfold wNum
    rw [if_neg (by simp), if_neg]
    intro h'
    simp only [Bool.and_eq_true] at h'
    have h3 := roomB_yes h'.1
    exact h ⟨by have := h3.2.2.2; simp at this; omega, h'.2⟩

theorem piece_length {at_ : Nat} {p : PartD} (h : fitsP at_ p) : ((piece p).length : Int) = p.q := by
  obtain ⟨h1, h2⟩ := h
  unfold piece
  split
  · rename_i hr
    rw [if_pos hr] at h2
    simp
    omega
  · rename_i hr
    rw [if_neg hr] at h2
    have h3 := of_decide_eq_true h2
    rw [low_length]
    omega

theorem stepP_prefix (st : List Nat × Bool) (p : PartD) : ∃ R, (stepP st p).1 = st.1 ++ R := by
  unfold stepP wBytes wNum
  split
  · split
    · exact ⟨[], by simp⟩
    · split
      · exact ⟨_, List.append_assoc _ _ _⟩
      · exact ⟨[], by simp⟩
  · split
    · exact ⟨[], by simp⟩
    · split
      · exact ⟨_, rfl⟩
      · exact ⟨[], by simp⟩

theorem foldP_prefix (ps : List PartD) : ∀ st : List Nat × Bool, ∃ R, (ps.foldl stepP st).1 = st.1 ++ R := by
  induction ps with
  | nil => intro st; exact ⟨[], by simp⟩
  | cons p ps ih =>
    intro st
    obtain ⟨R, h⟩ := ih (stepP st p)
    obtain ⟨R', h'⟩ := stepP_prefix st p
    exact ⟨R' ++ R, by rw [List.foldl_cons, h, h', List.append_assoc]⟩

theorem runL_prefix (ps : List PartD) (k : Nat) : ∃ R, (runL ps).1 = (runL (ps.take k)).1 ++ R := by
  have e : runL ps = (ps.drop k).foldl stepP (runL (ps.take k)) := by
    unfold runL
    rw [← List.foldl_append, List.take_append_drop]
  rw [e]
  exact foldP_prefix _ _

theorem stepP_len (st : List Nat × Bool) (p : PartD) (h : st.1.length ≤ 128) : (stepP st p).1.length ≤ 128 := by
  obtain ⟨L, f⟩ := st
  cases f with
  | true =>
    unfold stepP wBytes wNum
    split <;> simpa using h
  | false =>
    by_cases hf : fitsP L.length p
    · rw [stepP_yes hf, List.length_append]
      have := piece_length hf
      have := hf.1
      omega
    · rw [stepP_no hf]; exact h

theorem foldP_len (ps : List PartD) : ∀ st : List Nat × Bool, st.1.length ≤ 128 → (ps.foldl stepP st).1.length ≤ 128 := by
  induction ps with
  | nil => intro st h; exact h
  | cons p ps ih => intro st h; exact ih _ (stepP_len st p h)

theorem runL_len (ps : List PartD) : (runL ps).1.length ≤ 128 := foldP_len ps _ (by simp)

/-- What the reader finds of one part of a sector of parts. -/
theorem part_read {ps : List PartD} {L : List Nat} (h : runL ps = (L, false)) {k : Nat} {p : PartD} (hp : ps[k]? = some p) :
    fitsP (runL (ps.take k)).1.length p ∧ (runL (ps.take (k + 1))).1.length = (runL (ps.take k)).1.length + (piece p).length ∧ ((pad L).drop (runL (ps.take k)).1.length).take (piece p).length = piece p := by
  have h0 : (runL ps).2 = false := by rw [h]
  have h1 := runL_ok k h0
  have h2 := runL_ok (k + 1) h0
  obtain ⟨⟨Lk, f⟩, hk⟩ : ∃ st, runL (ps.take k) = st := ⟨_, rfl⟩
  rw [hk] at h1
  obtain rfl : f = false := h1
  have hs := runL_step hp
  rw [hk] at hs
  have hfit : fitsP Lk.length p := by
    by_cases hf : fitsP Lk.length p
    · exact hf
    · rw [← hs, stepP_no hf] at h2
      cases h2
  rw [stepP_yes hfit] at hs
  obtain ⟨R, hR⟩ := runL_prefix ps (k + 1)
  rw [h, ← hs] at hR
  rw [hk]
  refine ⟨hfit, by rw [← hs]; simp, ?_⟩
  rw [show L = Lk ++ piece p ++ R from hR]
  unfold pad
  simp

theorem box_facts {w : World} {g : Nat} {v0 v1 v2 v3 : Value} {t : TypeId} (h : w.heap[g]? = some (.cells #[v0, v1, v2, v3] t (0, 0))) : w.cell? ⟨g, 0, none⟩ = some v0 ∧ w.cell? ⟨g, 1, none⟩ = some v1 ∧ w.cell? ⟨g, 2, none⟩ = some v2 ∧ w.cell? ⟨g, 3, none⟩ = some v3 := by
  refine ⟨?_, ?_, ?_, ?_⟩ <;> (rw [cell_of_row _ _ _ _ _ _ h]; rfl)

theorem Only.cell {g k o : Nat} {a b : World} (h : Only g a b) (hk : k ≠ g) : b.cell? ⟨k, o, none⟩ = a.cell? ⟨k, o, none⟩ := by
  unfold World.cell?
  rw [h.block k hk]

theorem reads_block {wk : World} {g : Nat} {s : List Nat} {t : TypeId} (hs : s.length = 128) (hb : Bytes s) (h : wk.heap[g]? = some (.cells (cells s) t (0, 0))) (k : Nat) (hk : k ≤ 128) : Reads wk (some ⟨g, 0, none⟩) k (s.take k) := by
  refine ⟨by simp; omega, hb.take k, .inr ⟨g, 0, rfl, (Array.getElem?_eq_some_iff.1 h).1, fun i hi => ?_⟩⟩
  rw [block_cells hs h i (by omega)]
  simp [byteV, List.getD, hi]
end Go.Proofs.Ytdgmkobjdhmkdaa
