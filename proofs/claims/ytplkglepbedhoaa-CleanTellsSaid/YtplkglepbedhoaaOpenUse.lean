/- Rows of the usage table that came in, opened. -/
import Derived.Test.YtplkglepbedhoaaTab
import Derived.Test.YtplkglepbedhoaaOpen
import Derived.Deep.Slices
namespace Go.Proofs.Ytplkglepbedhoaa
open Go.ChangeShapes Go.WideShapes Go.RowKit Go.Deep
set_option linter.unusedVariables false
set_option maxRecDepth 100000

theorem addr_none (b o j : Nat) : (⟨b, o, none⟩ : Addr).add j = ⟨b, o + j, none⟩ := by unfold Addr.add; split <;> simp_all
theorem uses_rows' (us : List UseD) : ∀ p ∈ usesV us, p.length = 3 := by
  intro p hp
  unfold usesV at hp
  rw [List.mem_map] at hp
  obtain ⟨u, _, rfl⟩ := hp
  rfl
def UseFits (u : UseD) : Prop := I64 u.live ∧ I64 u.state ∧ 0 ≤ u.age ∧ u.age < 4294967296
theorem u32_of_wf {n : Int} (h : (Lit.int .u32 n).wf = true) : 0 ≤ n ∧ n < 4294967296 := by
  simp [Lit.wf, IntKind.min, IntKind.max, IntKind.signed, IntKind.bits] at h
  exact ⟨by omega, by omega⟩
theorem ruse_cells : Try.prog.cellsOf 27 = 3 := by kernel_rfl
theorem use_of_trod {H : Type} {enc : TypeId × Value → H} {W : World} {m b o : Nat} {cs : List Value} {y : DataW H × List MemPlace} (hc : W.cells? 0 ⟨b, o, none⟩ 3 = some cs)
    (h : DataW.trod enc Try.prog W 0 (fun _ => true) true m 27 cs = some y) : ∃ u, UseFits u ∧ ∀ i x, (useV u)[i]? = some x → W.cell? ⟨b, o + i, none⟩ = some x := by
  obtain ⟨_, hl, hat⟩ := World.cells?_some hc
  match cs, hl with
  | [v0, v1, v2], _ =>
    obtain ⟨ys, n', _, _, _, hyl, hf⟩ := DataW.trod_struct Try.underlying27 h
    have get : ∀ j, j < 3 → ∃ u, ys[j]? = some u := fun j hj => ⟨ys[j]'(by rw [hyl]; exact hj), List.getElem?_eq_getElem _⟩
    obtain ⟨y0, e0⟩ := get 0 (by decide)
    obtain ⟨y1, e1⟩ := get 1 (by decide)
    obtain ⟨y2, e2⟩ := get 2 (by decide)
    have f0 := (hf 0 _ rfl).trans e0
    have f1 := (hf 1 _ rfl).trans e1
    have f2 := (hf 2 _ rfl).trans e2
    replace f0 : DataW.trod enc Try.prog W 0 (fun _ => true) true n' 3 [v0] = some y0 := f0
    replace f1 : DataW.trod enc Try.prog W 0 (fun _ => true) true n' 3 [v1] = some y1 := f1
    replace f2 : DataW.trod enc Try.prog W 0 (fun _ => true) true n' 25 [v2] = some y2 := f2
    obtain ⟨x0, g0, _, w0⟩ := DataW.trod_int Try.underlying3 f0
    obtain ⟨x1, g1, _, w1⟩ := DataW.trod_int Try.underlying3 f1
    obtain ⟨x2, g2, _, w2⟩ := DataW.trod_int Try.underlying25 f2
    obtain rfl : v0 = .int .i64 x0 := by simpa using g0
    obtain rfl : v1 = .int .i64 x1 := by simpa using g1
    obtain rfl : v2 = .int .u32 x2 := by simpa using g2
    refine ⟨⟨x0, x1, x2⟩, ⟨i64_of_wf w0, i64_of_wf w1, u32_of_wf w2⟩, fun i x hi => ?_⟩
    have hi3 : i < 3 := (List.getElem?_eq_some_iff.1 hi).1
    have := hat i hi3
    rw [addr_none] at this
    rw [this]
    exact hi
theorem open_uses {H : Type} {enc : TypeId × Value → H} {W : World} {base : Nat} {v : Value} {d : DataW H} {pl : List MemPlace}
    (hok : Value.okWide Try.prog W .any base 22 v) (h : DataW.Trod enc Try.prog W 0 (fun _ => true) true 22 v d pl) :
    ∃ a cap, ∃ us : List UseD, v = .slice a us.length cap ∧ ReadsR W a 3 (usesV us) ∧ us.length ≤ cap ∧ ∀ u ∈ us, UseFits u := by
  obtain ⟨a0, len0, cap0, rfl⟩ := okWide_slice Try.underlying22 hok
  obtain ⟨fuel, hf⟩ := h
  rcases open_slice Try.underlying22 hf with ⟨hcs, _⟩ | ⟨x, len, cap, m, n, D, Pl, hcs, _, hl, hm, hmm, _, hi⟩
  · simp [Value.cells] at hcs
    obtain ⟨rfl, rfl, rfl⟩ := hcs
    exact ⟨none, 0, [], rfl, ReadsR.nil _ _ _, Nat.le_refl _, by simp⟩
  · simp [Value.cells] at hcs
    obtain ⟨rfl, rfl, rfl⟩ := hcs
    simp only [if_true] at hmm
    subst hmm
    by_cases h0 : len0 = 0
    · subst h0
      exact ⟨some x, m, [], rfl, ReadsR.nil _ _ _, Nat.zero_le _, by simp⟩
    · obtain ⟨b, off, spot⟩ := x
      rw [ruse_cells] at hi
      obtain ⟨cs0, hc0, _⟩ := hi 0 (by omega)
      have hs0 := (World.cells?_some hc0).2.2 0 (by decide)
      have hl0 := (World.cells?_some hc0).2.1
      rw [List.getElem?_eq_getElem (by omega)] at hs0
      have hspot : spot = none := by simpa [Addr.add] using World.cell?_spot hs0
      subst hspot
      have hbl : b < W.heap.size := by
        have := World.block_lt_of_cell? _ _ hs0
        rw [addr_none, addr_none] at this
        exact this
      have hex : ∀ i, ∃ u, i < len0 → UseFits u ∧ ∀ j x, (useV u)[j]? = some x → W.cell? ⟨b, off + i * 3 + j, none⟩ = some x := fun i => by
        by_cases hil : i < len0
        · obtain ⟨cs, hc, ht⟩ := hi i (by omega)
          rw [addr_none] at hc
          obtain ⟨u, hu⟩ := use_of_trod hc ht
          exact ⟨u, fun _ => hu⟩
        · exact ⟨zeroU, fun h => absurd h hil⟩
      obtain ⟨f, hf⟩ := Classical.skolem.1 hex
      have hus : ∀ i, i < len0 → ((List.range len0).map f)[i]? = some (f i) := fun i hil => by rw [List.getElem?_map, List.getElem?_range hil]; rfl
      have hlen : ((List.range len0).map f).length = len0 := by simp
      refine ⟨some ⟨b, off, none⟩, m, (List.range len0).map f, by rw [hlen], ⟨uses_rows' _, .inr ⟨b, off, rfl, hbl, fun i x hx => ?_⟩⟩, by rw [hlen]; exact hl, fun u hu => ?_⟩
      · have hlt := (List.getElem?_eq_some_iff.1 hx).1
        rw [flatR_length (uses_rows' _), usesV_length, hlen] at hlt
        have hd : i = (i / 3) * 3 + i % 3 := by omega
        have hq : i / 3 < len0 := by omega
        have hm3 : i % 3 < 3 := Nat.mod_lt _ (by decide)
        rw [hd, flatR_get (uses_rows' _) (usesV_get (hus _ hq)) hm3] at hx
        have := (hf _ hq).2 _ x hx
        rw [Nat.add_assoc, ← hd] at this
        exact this
      · obtain ⟨j, hj, rfl⟩ := List.mem_map.1 hu
        exact (hf j (List.mem_range.1 hj)).1
end Go.Proofs.Ytplkglepbedhoaa
