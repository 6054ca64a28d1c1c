/- Truths that came in, opened. -/
import Derived.Test.YthainmbapikjiaaGkgojahoh
import Derived.Test.YthainmbapikjiaaOpen
namespace Go.Proofs.Ythainmbapikjiaa
open Go.ChangeShapes Go.WideShapes Go.ChangeAt Go.RowKit
set_option linter.unusedVariables false
set_option maxRecDepth 100000

def truthOf : Option Value → Bool
  | some (.bool b) => b
  | _ => false

theorem open_truths {H : Type} {enc : TypeId × Value → H} {W : World} {base : Nat} {v : Value} {d : DataW H} {ps : List MemPlace}
    (hok : Value.okWide Try.prog W .any base 34 v) (h : DataW.Trod enc Try.prog W 0 (fun _ => true) true 34 v d ps) :
    ∃ a len cap l, v = .slice a len cap ∧ ReadsB W a len l ∧ len ≤ cap ∧ cap ≤ maxLen := by
  obtain ⟨a0, len0, cap0, rfl⟩ := okWide_slice Try.underlying34 hok
  obtain ⟨fuel, hf⟩ := h
  rcases DataW.trod_slice Try.underlying34 hf with ⟨hcs, _⟩ | ⟨x, len, cap, elems, rest, n, _, hcs, hx, hb, hl, hm, hlen, hel, hsp, hns⟩
  · simp [Value.cells] at hcs
    obtain ⟨rfl, rfl, rfl⟩ := hcs
    exact ⟨none, 0, 0, [], rfl, ⟨rfl, .inl rfl⟩, by omega, by unfold maxLen; omega⟩
  · simp [Value.cells] at hcs
    obtain ⟨rfl, rfl, rfl⟩ := hcs
    have each : ∀ i, i < len0 → ∃ b : Bool, W.cell? (x.add i) = some (.bool b) := by
      intro i hi
      have h1 := hel i hi
      have hc : Try.prog.cellsOf 4 = 1 := by kernel_rfl
      rw [hc, Nat.mul_one, List.getElem?_eq_getElem (by omega)] at h1
      obtain ⟨cs', hcs, hy'⟩ := Option.bind_eq_some_iff.1 h1
      obtain ⟨b, rfl, _⟩ := DataW.trod_bool Try.underlying4 hy'
      exact ⟨b, cell_of_cells?_one hcs⟩
    by_cases h0 : len0 = 0
    · exact ⟨some x, len0, cap0, [], rfl, ⟨by simp [h0], .inl rfl⟩, hl, hm⟩
    · obtain ⟨b, off, spot⟩ := x
      obtain ⟨v0, hc0⟩ := each 0 (by omega)
      have hspot : spot = none := by simpa [Addr.add] using World.cell?_spot hc0
      subst hspot
      refine ⟨_, len0, cap0, (List.range len0).map fun i => truthOf (W.cell? ⟨b, off + i, none⟩), rfl, ⟨by simp, .inr ⟨b, off, rfl, World.block_lt_of_cell? _ _ hc0, fun i hi => ?_⟩⟩, hl, hm⟩
      obtain ⟨u, hu⟩ := each i hi
      have hadd : (⟨b, off, none⟩ : Addr).add i = ⟨b, off + i, none⟩ := by unfold Addr.add; split <;> simp_all
      rw [hadd] at hu
      rw [hu]
      have e : ((List.range len0).map fun i => truthOf (W.cell? ⟨b, off + i, none⟩)).getD i false = u := by
        rw [List.getD_eq_getElem?_getD, List.getElem?_map, List.getElem?_range hi]
        simp only [Option.map_some, Option.getD_some]
        rw [hu]
        rfl
      rw [e]
end Go.Proofs.Ythainmbapikjiaa
