/- The opening of a slice of the law's acts. -/
import Derived.Test.YtnlbjpnhepdicaaBoth9
import Derived.Test.YtnlbjpnhepdicaaOpenUse
namespace Go.Proofs.Ytnlbjpnhepdicaa
open Go.ChangeShapes Go.WideShapes Go.RowKit Go.Deep
set_option linter.unusedVariables false
set_option linter.unusedSimpArgs false
set_option maxRecDepth 100000

def actV (x : ActD) : List Value := [.int .i64 x.kind, .int .i64 x.seg, .int .i64 x.n, .int .u32 x.time]
def actsV (l : List ActD) : List (List Value) := l.map actV
theorem actsV_length (l : List ActD) : (actsV l).length = l.length := by unfold actsV; rw [List.length_map]
theorem actsV_get {l : List ActD} {i : Nat} {x : ActD} (h : l[i]? = some x) : (actsV l)[i]? = some (actV x) := by unfold actsV; rw [List.getElem?_map, h]; rfl
theorem acts_rows (l : List ActD) : ∀ p ∈ actsV l, p.length = 4 := by
  intro p hp
  unfold actsV at hp
  rw [List.mem_map] at hp
  obtain ⟨u, _, rfl⟩ := hp
  rfl
def ActFits (x : ActD) : Prop := I64 x.kind ∧ I64 x.seg ∧ I64 x.n ∧ 0 ≤ x.time ∧ x.time < 4294967296
theorem ract_cells : Try.prog.cellsOf 65 = 4 := by kernel_rfl
theorem act_of_trod {H : Type} {enc : TypeId × Value → H} {W : World} {m b o : Nat} {cs : List Value} {y : DataW H × List MemPlace} (hc : W.cells? 0 ⟨b, o, none⟩ 4 = some cs)
    (h : DataW.trod enc Try.prog W 0 (fun _ => true) true m 65 cs = some y) : ∃ u, ActFits u ∧ ∀ i x, (actV u)[i]? = some x → W.cell? ⟨b, o + i, none⟩ = some x := by
  obtain ⟨_, hl, hat⟩ := World.cells?_some hc
  match cs, hl with
  | [v0, v1, v2, v3], _ =>
    obtain ⟨ys, n', _, _, _, hyl, hf⟩ := DataW.trod_struct Try.underlying65 h
    have get : ∀ j, j < 4 → ∃ u, ys[j]? = some u := fun j hj => ⟨ys[j]'(by rw [hyl]; exact hj), List.getElem?_eq_getElem _⟩
    obtain ⟨y0, e0⟩ := get 0 (by decide)
    obtain ⟨y1, e1⟩ := get 1 (by decide)
    obtain ⟨y2, e2⟩ := get 2 (by decide)
    obtain ⟨y3, e3⟩ := get 3 (by decide)
    have f0 := (hf 0 _ rfl).trans e0
    have f1 := (hf 1 _ rfl).trans e1
    have f2 := (hf 2 _ rfl).trans e2
    have f3 := (hf 3 _ rfl).trans e3
    replace f0 : DataW.trod enc Try.prog W 0 (fun _ => true) true n' 3 [v0] = some y0 := f0
    replace f1 : DataW.trod enc Try.prog W 0 (fun _ => true) true n' 3 [v1] = some y1 := f1
    replace f2 : DataW.trod enc Try.prog W 0 (fun _ => true) true n' 3 [v2] = some y2 := f2
    replace f3 : DataW.trod enc Try.prog W 0 (fun _ => true) true n' 26 [v3] = some y3 := f3
    obtain ⟨x0, g0, _, w0⟩ := DataW.trod_int Try.underlying3 f0
    obtain ⟨x1, g1, _, w1⟩ := DataW.trod_int Try.underlying3 f1
    obtain ⟨x2, g2, _, w2⟩ := DataW.trod_int Try.underlying3 f2
    obtain ⟨x3, g3, _, w3⟩ := DataW.trod_int Try.underlying26 f3
    obtain rfl : v0 = .int .i64 x0 := by simpa using g0
    obtain rfl : v1 = .int .i64 x1 := by simpa using g1
    obtain rfl : v2 = .int .i64 x2 := by simpa using g2
    obtain rfl : v3 = .int .u32 x3 := by simpa using g3
    refine ⟨⟨x0, x1, x2, x3⟩, ⟨i64_of_wf w0, i64_of_wf w1, i64_of_wf w2, u32_of_wf w3⟩, fun i x hi => ?_⟩
    have hi3 : i < 4 := (List.getElem?_eq_some_iff.1 hi).1
    have := hat i hi3
    rw [addr_none] at this
    rw [this]
    exact hi
theorem open_acts {H : Type} {enc : TypeId × Value → H} {W : World} {base : Nat} {v : Value} {d : DataW H} {pl : List MemPlace}
    (hok : Value.okWide Try.prog W .any base 55 v) (h : DataW.Trod enc Try.prog W 0 (fun _ => true) true 55 v d pl) :
    ∃ a cap, ∃ us : List ActD, v = .slice a us.length cap ∧ ReadsR W a 4 (actsV us) ∧ us.length ≤ cap ∧ ∀ u ∈ us, ActFits u := by
  obtain ⟨a0, len0, cap0, rfl⟩ := okWide_slice Try.underlying55 hok
  obtain ⟨fuel, hf⟩ := h
  rcases open_slice Try.underlying55 hf with ⟨hcs, _⟩ | ⟨x, len, cap, m, n, D, Pl, hcs, _, hl, hm, hmm, _, hi⟩
  · simp [Value.cells] at hcs
    obtain ⟨rfl, rfl, rfl⟩ := hcs
    exact ⟨none, 0, [], rfl, ReadsR.nil _ _ _, Nat.le_refl _, by simp⟩
  · simp [Value.cells] at hcs
    obtain ⟨rfl, rfl, rfl⟩ := hcs
    simp only [if_true] at hmm
    subst hmm
    by_cases h0 : len0 = 0
    · subst h0
      exact ⟨some x, m, [], rfl, ReadsR.nil _ _ _, Nat.zero_le _, by simp⟩
    · obtain ⟨b, off, spot⟩ := x
      rw [ract_cells] at hi
      obtain ⟨cs0, hc0, _⟩ := hi 0 (by omega)
      have hs0 := (World.cells?_some hc0).2.2 0 (by decide)
      have hl0 := (World.cells?_some hc0).2.1
      rw [List.getElem?_eq_getElem (by omega)] at hs0
      have hspot : spot = none := by simpa [Addr.add] using World.cell?_spot hs0
      subst hspot
      have hbl : b < W.heap.size := by
        have := World.block_lt_of_cell? _ _ hs0
        rw [addr_none, addr_none] at this
        exact this
      have hex : ∀ i, ∃ u, i < len0 → ActFits u ∧ ∀ j x, (actV u)[j]? = some x → W.cell? ⟨b, off + i * 4 + j, none⟩ = some x := fun i => by
        by_cases hil : i < len0
        · obtain ⟨cs, hc, ht⟩ := hi i (by omega)
          rw [addr_none] at hc
          obtain ⟨u, hu⟩ := act_of_trod hc ht
          exact ⟨u, fun _ => hu⟩
        · exact ⟨(⟨0, 0, 0, 0⟩ : ActD), fun h => absurd h hil⟩
      obtain ⟨f, hf⟩ := Classical.skolem.1 hex
      have hus : ∀ i, i < len0 → ((List.range len0).map f)[i]? = some (f i) := fun i hil => by rw [List.getElem?_map, List.getElem?_range hil]; rfl
      have hlen : ((List.range len0).map f).length = len0 := by simp
      refine ⟨some ⟨b, off, none⟩, m, (List.range len0).map f, by rw [hlen], ⟨acts_rows _, .inr ⟨b, off, rfl, hbl, fun i x hx => ?_⟩⟩, by rw [hlen]; exact hl, fun u hu => ?_⟩
      · have hlt := (List.getElem?_eq_some_iff.1 hx).1
        rw [flatR_length (acts_rows _), actsV_length, hlen] at hlt
        have hd : i = (i / 4) * 4 + i % 4 := by omega
        have hq : i / 4 < len0 := by omega
        have hm3 : i % 4 < 4 := Nat.mod_lt _ (by decide)
        rw [hd, flatR_get (acts_rows _) (actsV_get (hus _ hq)) hm3] at hx
        have := (hf _ hq).2 _ x hx
        rw [Nat.add_assoc, ← hd] at this
        exact this
      · obtain ⟨j, hj, rfl⟩ := List.mem_map.1 hu
        exact (hf j (List.mem_range.1 hj)).1
end Go.Proofs.Ytnlbjpnhepdicaa
