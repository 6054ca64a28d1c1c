/- A region's header, written as the document says. The document's own Open, by its walk. A region's header, read: what the document and the program say of a sector is one. -/
import Derived.Test.YtgakidimipipeaaGbndcdfka
import Derived.Test.YtgakidimipipeaaStep
import Derived.Deep.RegionHeld3
namespace Go.Proofs.Ytgakidimipipeaa
open Go.RowKit Go.Sort
set_option linter.unusedVariables false
set_option linter.unusedSimpArgs false
set_option maxRecDepth 100000

theorem head_list {l : List FldD} (h : IsHead l) : ∃ z0 z1 z2 z3 z4 z5 : Int, l = [⟨.u64, 8, z0⟩, ⟨.u64, 8, z1⟩, ⟨.i64, 2, z2⟩, ⟨.i64, 2, z3⟩, ⟨.i64, 2, z4⟩, ⟨.u32, 4, z5⟩] ∧ (0 ≤ z0 ∧ z0 < 18446744073709551616) ∧ (0 ≤ z1 ∧ z1 < 18446744073709551616) ∧ I64 z2 ∧ I64 z3 ∧ I64 z4 ∧ (0 ≤ z5 ∧ z5 < 4294967296) := by
  obtain ⟨hl, h⟩ := h
  match l, hl with
  | [a, b, c, d, e, f], _ =>
    obtain ⟨z0, e0, k0⟩ := h 0 (by decide)
    obtain ⟨z1, e1, k1⟩ := h 1 (by decide)
    obtain ⟨z2, e2, k2⟩ := h 2 (by decide)
    obtain ⟨z3, e3, k3⟩ := h 3 (by decide)
    obtain ⟨z4, e4, k4⟩ := h 4 (by decide)
    obtain ⟨z5, e5, k5⟩ := h 5 (by decide)
    have f0 : a = ⟨.u64, 8, z0⟩ := Option.some.inj e0
    have f1 : b = ⟨.u64, 8, z1⟩ := Option.some.inj e1
    have f2 : c = ⟨.i64, 2, z2⟩ := Option.some.inj e2
    have f3 : d = ⟨.i64, 2, z3⟩ := Option.some.inj e3
    have f4 : e = ⟨.i64, 2, z4⟩ := Option.some.inj e4
    have f5 : f = ⟨.u32, 4, z5⟩ := Option.some.inj e5
    subst f0 f1 f2 f3 f4 f5
    exact ⟨z0, z1, z2, z3, z4, z5, rfl, k0, k1, k2, k3, k4, k5⟩
theorem stS_bad2 : ∀ (l : List FldD) (b : List Nat) (f : Bool), (f = true ∨ ∃ x ∈ l, ¬ u64of x.z < 256 ^ x.width) → ∃ b', stS (.wr b f) l = .wr b' true
  | [], b, f, h => by
    rcases h with rfl | ⟨x, hx, _⟩
    · exact ⟨b, rfl⟩
    · simp at hx
  | x :: l, b, f, h => by
    show ∃ b', stS (PS.next (.wr b f) x.width (u64of x.z)) l = _
    by_cases hx : u64of x.z < 256 ^ x.width
    · have e : PS.next (.wr b f) x.width (u64of x.z) = .wr (b ++ low (u64of x.z) x.width) f := if_pos hx
      rw [e]
      refine stS_bad2 l _ f ?_
      rcases h with h | ⟨y, hy, hn⟩
      · exact .inl h
      · rcases List.mem_cons.1 hy with rfl | hy
        · exact absurd hx hn
        · exact .inr ⟨y, hy, hn⟩
    · have e : PS.next (.wr b f) x.width (u64of x.z) = .wr (b ++ List.replicate x.width 0) true := if_neg hx
      rw [e]
      exact stS_bad2 l _ true (.inl rfl)
theorem writeH_bad {l : List FldD} (h : ∃ x ∈ l, ¬ u64of x.z < 256 ^ x.width) : writeH l = (noughts, 1) := by
  obtain ⟨b', e⟩ := stS_bad2 l [] false (.inr h)
  have : wrF l = true := by unfold wrF; rw [e]
  exact if_pos (.inr this)
theorem writeH_good {l : List FldD} (h : ∀ x ∈ l, u64of x.z < 256 ^ x.width) : writeH l = (sealL 6 (l.flatMap fun x => low (u64of x.z) x.width), 0) := by
  have e := stS_room2 l [] h
  have h1 : wrF l = false := by unfold wrF; rw [e]
  have h2 : wrB l = l.flatMap fun x => low (u64of x.z) x.width := by unfold wrB; rw [e]; rfl
  unfold writeH
  rw [if_neg (by rw [h1]; simp [mayH]), h2]
/-- The document's word on a header: it may be. -/
noncomputable def headOk (l : List FldD) : Bool := decide ((writeH l).2 = 0)

end Go.Proofs.Ytgakidimipipeaa

namespace Go.Proofs.Ytgakidimipipeaa
open Go.RowKit
set_option linter.unusedVariables false
set_option maxRecDepth 100000

theorem openB_three {s : List Nat} (h : openB s = true) : s.getD 3 0 ≤ 120 := by
  unfold openB at h
  obtain ⟨_, h2, h3⟩ := of_decide_eq_true h
  rw [← h3, sealL_three]
  exact h2
theorem bodyL_take {s : List Nat} (h : s.getD 3 0 ≤ 120) : bodyL s = (s.drop 4).take (s.getD 3 0) := by
  unfold bodyL bodyOf
  rw [if_pos (by omega)]
theorem drop4_step (s : List Nat) (hs : s.length = 128) (k : Nat) (hk : k < 120) : (s.drop 4).take k ++ [s.getD (4 + k) 0] = (s.drop 4).take (k + 1) := by
  rw [take_snoc_getD (s.drop 4) k (by simp; omega)]
  simp [List.getD]

def ROpenPost (s : List Nat) (w : World) (e : Ending) (w' : World) : Prop :=
  Below w.heap.size w w' ∧ ((openB s = true ∧ ∃ a cap, e = .returned (.tuple #[.int .u8 (kindL s : Nat), .slice a (bodyL s).length cap, .bool true]) ∧ Reads w' a (bodyL s).length (bodyL s) ∧ (bodyL s).length ≤ cap ∧ cap ≤ maxLen) ∨
    (openB s = false ∧ e = .returned (.tuple #[.int .u8 0, .slice none 0 0, .bool false])))

end Go.Proofs.Ytgakidimipipeaa

namespace Go.Proofs.Ytgakidimipipeaa
open Go.RowKit Go.Sort
set_option linter.unusedVariables false
set_option linter.unusedSimpArgs false
set_option maxRecDepth 100000

theorem bodyL_byt {s : List Nat} (h : Bytes s) : Bytes (bodyL s) := by
  unfold bodyL bodyOf
  split
  · exact (h.drop _).take _
  · intro x hx; simp at hx
theorem stO_rd_cons {b : List Nat} {x : FldD} {l : List FldD} (h : x.width ≤ b.length) : stO (.rd b) (x :: l) = ⟨x.kind, x.width, ((le (b.take x.width) : Nat) : Int)⟩ :: stO (.rd (b.drop x.width)) l := by
  show (⟨x.kind, x.width, PS.numI (.rd b) x.width x.z⟩ : FldD) :: stO (PS.next (.rd b) x.width (u64of x.z)) l = _
  have h1 : PS.next (.rd b) x.width (u64of x.z) = .rd (b.drop x.width) := if_pos h
  have h2 : PS.num (.rd b) x.width 0 = le (b.take x.width) := if_pos h
  have h3 : PS.numI (.rd b) x.width x.z = ((PS.num (.rd b) x.width 0 : Nat) : Int) := rfl
  rw [h1, h3, h2]
/-- The six numbers of a header's body. -/
def headOf (b : List Nat) : List FldD := [⟨.u64, 8, ((le (b.take 8) : Nat) : Int)⟩, ⟨.u64, 8, ((le ((b.drop 8).take 8) : Nat) : Int)⟩, ⟨.i64, 2, ((le ((b.drop 16).take 2) : Nat) : Int)⟩, ⟨.i64, 2, ((le ((b.drop 18).take 2) : Nat) : Int)⟩, ⟨.i64, 2, ((le ((b.drop 20).take 2) : Nat) : Int)⟩, ⟨.u32, 4, ((le ((b.drop 22).take 4) : Nat) : Int)⟩]
theorem rdH_headOf {b : List Nat} (h : b.length = 26) : rdH b = headOf b := by
  have hz : zeroH = [⟨.u64, 8, 0⟩, ⟨.u64, 8, 0⟩, ⟨.i64, 2, 0⟩, ⟨.i64, 2, 0⟩, ⟨.i64, 2, 0⟩, ⟨.u32, 4, 0⟩] := rfl
  unfold rdH
  rw [hz, stO_rd_cons (by dsimp only; omega), stO_rd_cons (by simp; omega), stO_rd_cons (by simp; omega), stO_rd_cons (by simp; omega), stO_rd_cons (by simp; omega), stO_rd_cons (by simp; omega)]
  simp only [List.drop_drop]
  rfl
theorem u64of_le {l : List Nat} (h : Bytes l) (h8 : l.length ≤ 8) : u64of ((le l : Nat) : Int) = le l := u64of_nat (le_lt64 l h h8)
theorem low_of_le {l : List Nat} (h : Bytes l) (h8 : l.length ≤ 8) : low (u64of ((le l : Nat) : Int)) l.length = l := by rw [u64of_le h h8, low_le l h]
theorem fits_le {l : List Nat} (h : Bytes l) (h8 : l.length ≤ 8) : u64of ((le l : Nat) : Int) < 256 ^ l.length := by rw [u64of_le h h8]; exact le_lt l h
theorem writeH_headOf {b : List Nat} (h : b.length = 26) (hb : Bytes b) : writeH (headOf b) = (sealL 6 b, 0) := by
  have l0 : (b.take 8).length = 8 := by simp; omega
  have l1 : ((b.drop 8).take 8).length = 8 := by simp; omega
  have l2 : ((b.drop 16).take 2).length = 2 := by simp; omega
  have l3 : ((b.drop 18).take 2).length = 2 := by simp; omega
  have l4 : ((b.drop 20).take 2).length = 2 := by simp; omega
  have l5 : ((b.drop 22).take 4).length = 4 := by simp; omega
  have f0 := fits_le (hb.take 8) (by omega)
  have f1 := fits_le ((hb.drop 8).take 8) (by omega)
  have f2 := fits_le ((hb.drop 16).take 2) (by omega)
  have f3 := fits_le ((hb.drop 18).take 2) (by omega)
  have f4 := fits_le ((hb.drop 20).take 2) (by omega)
  have f5 := fits_le ((hb.drop 22).take 4) (by omega)
  have g0 := low_of_le (hb.take 8) (by omega)
  have g1 := low_of_le ((hb.drop 8).take 8) (by omega)
  have g2 := low_of_le ((hb.drop 16).take 2) (by omega)
  have g3 := low_of_le ((hb.drop 18).take 2) (by omega)
  have g4 := low_of_le ((hb.drop 20).take 2) (by omega)
  have g5 := low_of_le ((hb.drop 22).take 4) (by omega)
  rw [l0] at f0 g0
  rw [l1] at f1 g1
  rw [l2] at f2 g2
  rw [l3] at f3 g3
  rw [l4] at f4 g4
  rw [l5] at f5 g5
  refine (writeH_good ?_).trans ?_
  · intro x hx
    simp only [headOf, List.mem_cons, List.not_mem_nil, or_false] at hx
    rcases hx with rfl | rfl | rfl | rfl | rfl | rfl <;> assumption
  · have e : (headOf b).flatMap (fun x => low (u64of x.z) x.width) = b := by
      simp only [headOf, List.flatMap_cons, List.flatMap_nil, List.append_nil, g0, g1, g2, g3, g4, g5]
      have s5 : (b.drop 22).take 4 = b.drop 22 := List.take_of_length_le (by simp; omega)
      have t : ∀ i k, (b.drop i).take k ++ b.drop (i + k) = b.drop i := fun i k => by rw [← List.drop_drop]; exact List.take_append_drop k (b.drop i)
      rw [s5, t 20 2, t 18 2, t 16 2, t 8 8]
      exact List.take_append_drop 8 b
    rw [e]
/-- The document's word on a sector. -/
def isHead (s : List Nat) : Bool := openB s && decide (kindL s = 6) && decide ((bodyL s).length = 26)
theorem readH_yes {s : List Nat} (hb : Bytes s) (h : isHead s = true) : readH s = (headOf (bodyL s), 0) := by
  unfold isHead at h
  simp only [Bool.and_eq_true, decide_eq_true_eq] at h
  obtain ⟨⟨ho, hk⟩, hl⟩ := h
  have e : bO s = bodyL s := if_pos ho
  have hbb := bodyL_byt hb
  have hs : sealL 6 (bodyL s) = s := by
    have hn : ¬ (kindL s = 0 ∨ 120 < (bodyL s).length) := by omega
    have := openB_make hn
    rw [ho, hk] at this
    exact of_decide_eq_true this.symm
  unfold readH
  rw [e, rdH_headOf hl, writeH_headOf hl hbb]
  exact if_pos ⟨rfl, hs⟩
theorem readH_no {s : List Nat} (hb : Bytes s) (h : isHead s = false) : readH s = (zeroH, 21) := by
  refine if_neg ?_
  rintro ⟨h1, h2⟩
  have hbO : Bytes (bO s) := by
    unfold bO
    split
    · exact bodyL_byt hb
    · intro x hx; simp at hx
  have hI := rdH_is hbO
  have hw := head_widths hI
  have hf : wrF (rdH (bO s)) = false := by
    cases hf : wrF (rdH (bO s)) with
    | false => rfl
    | true =>
      have : writeH (rdH (bO s)) = (noughts, 1) := if_pos (.inr hf)
      rw [this] at h1
      exact absurd h1 (by decide)
  have he : writeH (rdH (bO s)) = (sealL 6 (wrB (rdH (bO s))), 0) := if_neg (by rw [hf]; simp [mayH])
  rw [he] at h2
  have hl : (wrB (rdH (bO s))).length = 26 := by rw [wrB_length, hw]
  have h3 : sealL 6 (wrB (rdH (bO s))) = s := h2
  have ho := openB_sealL (k := 6) (b := wrB (rdH (bO s))) (by decide) (by omega)
  have hk := sealL_kind 6 (wrB (rdH (bO s)))
  have hbd := sealL_body 6 (wrB (rdH (bO s))) (by omega)
  rw [h3] at ho hk hbd
  unfold isHead at h
  rw [ho, hk, hbd, hl] at h
  simp at h
end Go.Proofs.Ytgakidimipipeaa
