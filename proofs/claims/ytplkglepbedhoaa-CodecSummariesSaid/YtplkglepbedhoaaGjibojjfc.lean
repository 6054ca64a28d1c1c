/- A region's header, written as the document says. -/
import Derived.Test.YtplkglepbedhoaaGammhkoib
import Derived.Test.YtplkglepbedhoaaGddmfnfkp
import Derived.Test.YtplkglepbedhoaaStep
import Derived.Test.YtplkglepbedhoaaGbpoahfpk
import Derived.Deep.RegionHeld3
namespace Go.Proofs.Ytplkglepbedhoaa
open Go.RowKit Go.Sort
set_option linter.unusedVariables false
set_option linter.unusedSimpArgs false
set_option maxRecDepth 100000

theorem head_list {l : List FldD} (h : IsHead l) : ∃ z0 z1 z2 z3 z4 z5 : Int, l = [⟨.u64, 8, z0⟩, ⟨.u64, 8, z1⟩, ⟨.i64, 2, z2⟩, ⟨.i64, 2, z3⟩, ⟨.i64, 2, z4⟩, ⟨.u32, 4, z5⟩] ∧ (0 ≤ z0 ∧ z0 < 18446744073709551616) ∧ (0 ≤ z1 ∧ z1 < 18446744073709551616) ∧ I64 z2 ∧ I64 z3 ∧ I64 z4 ∧ (0 ≤ z5 ∧ z5 < 4294967296) := by
  obtain ⟨hl, h⟩ := h
  match l, hl with
  | [a, b, c, d, e, f], _ =>
    obtain ⟨z0, e0, k0⟩ := h 0 (by decide)
    obtain ⟨z1, e1, k1⟩ := h 1 (by decide)
    obtain ⟨z2, e2, k2⟩ := h 2 (by decide)
    obtain ⟨z3, e3, k3⟩ := h 3 (by decide)
    obtain ⟨z4, e4, k4⟩ := h 4 (by decide)
    obtain ⟨z5, e5, k5⟩ := h 5 (by decide)
    have f0 : a = ⟨.u64, 8, z0⟩ := Option.some.inj e0
    have f1 : b = ⟨.u64, 8, z1⟩ := Option.some.inj e1
    have f2 : c = ⟨.i64, 2, z2⟩ := Option.some.inj e2
    have f3 : d = ⟨.i64, 2, z3⟩ := Option.some.inj e3
    have f4 : e = ⟨.i64, 2, z4⟩ := Option.some.inj e4
    have f5 : f = ⟨.u32, 4, z5⟩ := Option.some.inj e5
    subst f0 f1 f2 f3 f4 f5
    exact ⟨z0, z1, z2, z3, z4, z5, rfl, k0, k1, k2, k3, k4, k5⟩
theorem stS_bad2 : ∀ (l : List FldD) (b : List Nat) (f : Bool), (f = true ∨ ∃ x ∈ l, ¬ u64of x.z < 256 ^ x.width) → ∃ b', stS (.wr b f) l = .wr b' true
  | [], b, f, h => by
    rcases h with rfl | ⟨x, hx, _⟩
    · exact ⟨b, rfl⟩
    · simp at hx
  | x :: l, b, f, h => by
    show ∃ b', stS (PS.next (.wr b f) x.width (u64of x.z)) l = _
    by_cases hx : u64of x.z < 256 ^ x.width
    · have e : PS.next (.wr b f) x.width (u64of x.z) = .wr (b ++ low (u64of x.z) x.width) f := if_pos hx
      rw [e]
      refine stS_bad2 l _ f ?_
      rcases h with h | ⟨y, hy, hn⟩
      · exact .inl h
      · rcases List.mem_cons.1 hy with rfl | hy
        · exact absurd hx hn
        · exact .inr ⟨y, hy, hn⟩
    · have e : PS.next (.wr b f) x.width (u64of x.z) = .wr (b ++ List.replicate x.width 0) true := if_neg hx
      rw [e]
      exact stS_bad2 l _ true (.inl rfl)
theorem writeH_bad {l : List FldD} (h : ∃ x ∈ l, ¬ u64of x.z < 256 ^ x.width) : writeH l = (noughts, 1) := by
  obtain ⟨b', e⟩ := stS_bad2 l [] false (.inr h)
  have : wrF l = true := by unfold wrF; rw [e]
  exact if_pos (.inr this)
theorem writeH_good {l : List FldD} (h : ∀ x ∈ l, u64of x.z < 256 ^ x.width) : writeH l = (sealL 6 (l.flatMap fun x => low (u64of x.z) x.width), 0) := by
  have e := stS_room2 l [] h
  have h1 : wrF l = false := by unfold wrF; rw [e]
  have h2 : wrB l = l.flatMap fun x => low (u64of x.z) x.width := by unfold wrB; rw [e]; rfl
  unfold writeH
  rw [if_neg (by rw [h1]; simp [mayH]), h2]
/-- The document's word on a header: it may be. -/
noncomputable def headOk (l : List FldD) : Bool := decide ((writeH l).2 = 0)

end Go.Proofs.Ytplkglepbedhoaa
