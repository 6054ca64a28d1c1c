/- An act on a disk that came in, opened: its two slices stand in its own cells. -/
import Derived.Test.YthainmbapikjiaaGfnhbgloh
import Derived.Test.YthainmbapikjiaaGbpfbgbjo
namespace Go.Proofs.Ythainmbapikjiaa
open Go.ChangeShapes Go.WideShapes Go.ChangeAt Go.RowKit Go.Sort
set_option linter.unusedVariables false
set_option linter.unusedSimpArgs false
set_option maxRecDepth 100000

theorem truths_of_trod {H : Type} {enc : TypeId × Value → H} {W : World} {m : Nat} {v : Value} {y : DataW H × List MemPlace} (hf : DataW.trod enc Try.prog W 0 (fun _ => true) true m 34 [v] = some y) :
    ∃ a len cap l, v = .slice a len cap ∧ ReadsB W a len l ∧ len ≤ cap ∧ cap ≤ maxLen := by
  rcases DataW.trod_slice Try.underlying34 hf with ⟨hcs, _⟩ | ⟨x, len, cap, elems, rest, n, _, hcs, hx, hb, hl, hm, hlen, hel, hsp, hns⟩
  · obtain rfl : v = .slice none 0 0 := by simpa using hcs
    exact ⟨none, 0, 0, [], rfl, ⟨rfl, .inl rfl⟩, by omega, by unfold maxLen; omega⟩
  · obtain rfl : v = .slice (some x) len cap := by simpa using hcs
    have each : ∀ i, i < len → ∃ b : Bool, W.cell? (x.add i) = some (.bool b) := by
      intro i hi
      have h1 := hel i hi
      have hc : Try.prog.cellsOf 4 = 1 := by kernel_rfl
      rw [hc, Nat.mul_one, List.getElem?_eq_getElem (by omega)] at h1
      obtain ⟨cs', hcs, hy'⟩ := Option.bind_eq_some_iff.1 h1
      obtain ⟨b, rfl, _⟩ := DataW.trod_bool Try.underlying4 hy'
      exact ⟨b, cell_of_cells?_one hcs⟩
    by_cases h0 : len = 0
    · exact ⟨some x, len, cap, [], rfl, ⟨by simp [h0], .inl rfl⟩, hl, hm⟩
    · obtain ⟨b, off, spot⟩ := x
      obtain ⟨v0, hc0⟩ := each 0 (by omega)
      have hspot : spot = none := by simpa [Addr.add] using World.cell?_spot hc0
      subst hspot
      refine ⟨_, len, cap, (List.range len).map fun i => truthOf (W.cell? ⟨b, off + i, none⟩), rfl, ⟨by simp, .inr ⟨b, off, rfl, World.block_lt_of_cell? _ _ hc0, fun i hi => ?_⟩⟩, hl, hm⟩
      obtain ⟨u, hu⟩ := each i hi
      have hadd : (⟨b, off, none⟩ : Addr).add i = ⟨b, off + i, none⟩ := by unfold Addr.add; split <;> simp_all
      rw [hadd] at hu
      rw [hu]
      have e : ((List.range len).map fun i => truthOf (W.cell? ⟨b, off + i, none⟩)).getD i false = u := by
        rw [List.getD_eq_getElem?_getD, List.getElem?_map, List.getElem?_range hi]
        simp only [Option.map_some, Option.getD_some]
        rw [hu]
        rfl
      rw [e]

theorem bytes_of_trod {H : Type} {enc : TypeId × Value → H} {W : World} {m : Nat} {v : Value} {y : DataW H × List MemPlace} (hf : DataW.trod enc Try.prog W 0 (fun _ => true) true m 33 [v] = some y) :
    ∃ a len cap l, v = .slice a len cap ∧ Reads W a len l ∧ len ≤ cap ∧ cap ≤ maxLen := by
  rcases open_ints Try.underlying33 Try.underlying5 (by kernel_rfl) hf with ⟨hcs, _⟩ | ⟨x, l, c, zs, hcs, _, hl, hm, hz, hx, hcell, hwz⟩
  · obtain rfl : v = .slice none 0 0 := by simpa using hcs
    exact ⟨none, 0, 0, [], rfl, ⟨rfl, by intro y hy; simp at hy, .inl rfl⟩, by omega, by unfold maxLen; omega⟩
  · obtain rfl : v = .slice (some x) l c := by simpa using hcs
    simp only [if_true] at hz
    exact ⟨_, _, _, _, rfl, reads_of_cells hl hz hcell hwz, hl, hm⟩
theorem act3_cells : Try.prog.cellsOf 36 = 4 := by kernel_rfl
theorem act3_of_trod {H : Type} {enc : TypeId × Value → H} {W : World} {m : Nat} {cs : List Value} {y : DataW H × List MemPlace} (hl : cs.length = 4)
    (h : DataW.trod enc Try.prog W 0 (fun _ => true) true m 36 cs = some y) : ∃ u, Act3Fits W u ∧ act3V u = cs := by
  match cs, hl with
  | [v0, v1, v2, v3], _ =>
    obtain ⟨ys, n', _, _, _, hyl, hf⟩ := DataW.trod_struct Try.underlying36 h
    have get : ∀ j, j < 4 → ∃ u, ys[j]? = some u := fun j hj => ⟨ys[j]'(by rw [hyl]; exact hj), List.getElem?_eq_getElem _⟩
    obtain ⟨y0, e0⟩ := get 0 (by decide)
    obtain ⟨y1, e1⟩ := get 1 (by decide)
    obtain ⟨y2, e2⟩ := get 2 (by decide)
    obtain ⟨y3, e3⟩ := get 3 (by decide)
    have f0 := (hf 0 _ rfl).trans e0
    have f1 := (hf 1 _ rfl).trans e1
    have f2 := (hf 2 _ rfl).trans e2
    have f3 := (hf 3 _ rfl).trans e3
    replace f0 : DataW.trod enc Try.prog W 0 (fun _ => true) true n' 3 [v0] = some y0 := f0
    replace f1 : DataW.trod enc Try.prog W 0 (fun _ => true) true n' 3 [v1] = some y1 := f1
    replace f2 : DataW.trod enc Try.prog W 0 (fun _ => true) true n' 33 [v2] = some y2 := f2
    replace f3 : DataW.trod enc Try.prog W 0 (fun _ => true) true n' 34 [v3] = some y3 := f3
    obtain ⟨x0, g0, _, w0⟩ := DataW.trod_int Try.underlying3 f0
    obtain ⟨x1, g1, _, w1⟩ := DataW.trod_int Try.underlying3 f1
    obtain ⟨sa, sn, sc, S, rfl, hs, hs1, hs2⟩ := bytes_of_trod f2
    obtain ⟨ka, kn, kc, ks, rfl, hk, hk1, hk2⟩ := truths_of_trod f3
    obtain rfl : v0 = .int .i64 x0 := by simpa using g0
    obtain rfl : v1 = .int .i64 x1 := by simpa using g1
    exact ⟨⟨x0, x1, sa, sn, sc, ka, kn, kc, S, ks⟩, ⟨i64_of_wf w0, i64_of_wf w1, ⟨hs, Nat.le_trans hs1 hs2⟩, ⟨hk, by unfold maxLen at hk2; show kn ≤ _; omega⟩⟩, rfl⟩
theorem open_act3 {H : Type} {enc : TypeId × Value → H} {W : World} {base : Nat} {v : Value} {d : DataW H} {pl : List MemPlace}
    (hok : Value.okWide Try.prog W .any base 22 v) (h : DataW.Trod enc Try.prog W 0 (fun _ => true) true 22 v d pl) :
    ∃ a cap, ∃ us : List Act3D, v = .slice a us.length cap ∧ ReadsR W a 4 (rowsOf act3V us) ∧ us.length ≤ cap ∧ ∀ u ∈ us, Act3Fits W u :=
  open_rows act3V (Act3Fits W) ⟨0, 0, none, 0, 0, none, 0, 0, [], []⟩ 4 (by decide) (fun _ => rfl) Try.underlying22 act3_cells (fun hl ht => act3_of_trod hl ht) hok h
end Go.Proofs.Ythainmbapikjiaa
