/- Numbers that came in, opened. -/
import Derived.Test.YthainmbapikjiaaOpen
namespace Go.Proofs.Ythainmbapikjiaa
open Go.ChangeShapes Go.WideShapes Go.ChangeAt Go.RowKit
set_option linter.unusedVariables false
set_option maxRecDepth 100000

/-- The slice's elements are these numbers. -/
def ReadsI (w : World) (a : Option Addr) (len : Nat) (l : List Int) : Prop :=
  l.length = len ∧ (l = [] ∨ ∃ b off, a = some ⟨b, off, none⟩ ∧ b < w.heap.size ∧ ∀ i, i < len → w.cell? ⟨b, off + i, none⟩ = some (.int .i64 (l[i]?.getD 0)))
theorem readsI_of_cells {w : World} {x : Addr} {zs : List Int} {len : Nat} (hl : len ≤ zs.length)
    (hc : ∀ i, i < zs.length → w.cell? (x.add i) = some (.int .i64 (zs.getD i 0))) : ReadsI w (some x) len (zs.take len) := by
  refine ⟨by simp; omega, ?_⟩
  by_cases h0 : len = 0
  · left; simp [h0]
  · obtain ⟨b, off, spot⟩ := x
    have hc0 := hc 0 (by omega)
    have hspot : spot = none := by simpa [Addr.add] using World.cell?_spot hc0
    subst hspot
    refine .inr ⟨b, off, rfl, World.block_lt_of_cell? _ _ hc0, fun i hi => ?_⟩
    have hadd : (⟨b, off, none⟩ : Addr).add i = ⟨b, off + i, none⟩ := by unfold Addr.add; split <;> simp_all
    have h1 := hc i (by omega)
    rw [hadd] at h1
    rw [h1, List.getElem?_take, if_pos hi, List.getD_eq_getElem?_getD]
theorem bytesI : Try.prog.bytesOf 3 = 8 := by kernel_rfl
theorem open_nums {H : Type} {enc : TypeId × Value → H} {W : World} {base : Nat} {v : Value} {d : DataW H} {ps : List MemPlace}
    (hok : Value.okWide Try.prog W .any base 72 v) (h : DataW.Trod enc Try.prog W 0 (fun _ => true) true 72 v d ps) (hw : (d.weights Try.prog 72).all (· ≤ reachBytes) = true) :
    ∃ a len cap l, v = .slice a len cap ∧ ReadsI W a len l ∧ len ≤ cap ∧ cap ≤ 140737488351232 ∧ ∀ x ∈ l, (Lit.int .i64 x).wf = true := by
  obtain ⟨a0, len0, cap0, rfl⟩ := okWide_slice Try.underlying72 hok
  obtain ⟨fuel, hf⟩ := h
  rcases open_ints Try.underlying72 Try.underlying3 (by kernel_rfl) hf with ⟨hcs, _⟩ | ⟨x, l, c, zs, hcs, _, hl, hm, hz, hx, hcell, hwz⟩
  · simp [Value.cells] at hcs
    obtain ⟨rfl, rfl, rfl⟩ := hcs
    exact ⟨none, 0, 0, [], rfl, ⟨rfl, .inl rfl⟩, by omega, by omega, by intro y hy; simp at hy⟩
  · simp [Value.cells] at hcs
    obtain ⟨rfl, rfl, rfl⟩ := hcs
    simp only [if_true] at hz
    obtain ⟨rfl, _⟩ := Prod.mk.inj hx
    have hcap : cap0 ≤ 140737488351232 := by
      have h0 : (zs.length * 8 ≤ reachBytes) := by
        have := List.all_eq_true.1 hw (((lits (H := H) .i64 (zs.take len0)).length + (lits (H := H) .i64 (zs.drop len0)).length) * Try.prog.bytesOf 3) (by simp [DataW.weights, Try.underlying72])
        rw [bytesI, lits_length, lits_length] at this
        simp only [List.length_take, List.length_drop, decide_eq_true_eq] at this
        omega
      simp only [reachBytes] at h0
      omega
    exact ⟨_, _, _, _, rfl, readsI_of_cells (by omega) hcell, hl, hcap, fun y hy => hwz y (List.mem_of_mem_take hy)⟩
end Go.Proofs.Ythainmbapikjiaa
