/- Rows of Slots that came in, opened. -/
import Derived.Test.YtgakidimipipeaaGnijdicfc
import Derived.Test.YtgakidimipipeaaOpenRec
namespace Go.Proofs.Ytgakidimipipeaa
open Go.ChangeShapes Go.WideShapes Go.RowKit Go.Deep
set_option linter.unusedVariables false
set_option linter.unusedSimpArgs false
set_option maxRecDepth 100000

theorem rSlot_cells : Try.prog.cellsOf 27 = 4 := by kernel_rfl
theorem rSlot_of_trod {H : Type} {enc : TypeId × Value → H} {W : World} {m : Nat} {cs : List Value} {y : DataW H × List MemPlace} (hl : cs.length = 4)
    (h : DataW.trod enc Try.prog W 0 (fun _ => true) true m 27 cs = some y) : ∃ u : {l : List FldD // l.length = 4}, IsFSlot u.1 ∧ rowV u.1 = cs := by
  match cs, hl with
  | [v0, v1, v2, v3], _ =>
    obtain ⟨ys, n', _, _, _, hyl, hf⟩ := DataW.trod_struct Try.underlying27 h
    have get : ∀ j, j < 4 → ∃ u, ys[j]? = some u := fun j hj => ⟨ys[j]'(by rw [hyl]; exact hj), List.getElem?_eq_getElem _⟩
    obtain ⟨y0, e0⟩ := get 0 (by decide)
    have f0 := (hf 0 _ rfl).trans e0
    replace f0 : DataW.trod enc Try.prog W 0 (fun _ => true) true n' 3 [v0] = some y0 := f0
    obtain ⟨z0, gz0, _, wf0⟩ := DataW.trod_int Try.underlying3 f0
    have hv0 : v0 = .int .i64 z0 := by simpa using gz0
    obtain ⟨y1, e1⟩ := get 1 (by decide)
    have f1 := (hf 1 _ rfl).trans e1
    replace f1 : DataW.trod enc Try.prog W 0 (fun _ => true) true n' 25 [v1] = some y1 := f1
    obtain ⟨z1, gz1, _, wf1⟩ := DataW.trod_int Try.underlying25 f1
    have hv1 : v1 = .int .u32 z1 := by simpa using gz1
    obtain ⟨y2, e2⟩ := get 2 (by decide)
    have f2 := (hf 2 _ rfl).trans e2
    replace f2 : DataW.trod enc Try.prog W 0 (fun _ => true) true n' 3 [v2] = some y2 := f2
    obtain ⟨z2, gz2, _, wf2⟩ := DataW.trod_int Try.underlying3 f2
    have hv2 : v2 = .int .i64 z2 := by simpa using gz2
    obtain ⟨y3, e3⟩ := get 3 (by decide)
    have f3 := (hf 3 _ rfl).trans e3
    replace f3 : DataW.trod enc Try.prog W 0 (fun _ => true) true n' 3 [v3] = some y3 := f3
    obtain ⟨z3, gz3, _, wf3⟩ := DataW.trod_int Try.underlying3 f3
    have hv3 : v3 = .int .i64 z3 := by simpa using gz3
    exact ⟨⟨fldSlot z0 z1 z2 z3, rfl⟩, ⟨z0, z1, z2, z3, rfl, i64_of_wf wf0, u32_of_wf' wf1, i64_of_wf wf2, i64_of_wf wf3⟩, by simp [fldSlot, rowV, hv0, hv1, hv2, hv3]⟩
theorem openSlots {H : Type} {enc : TypeId × Value → H} {W : World} {base : Nat} {v : Value} {d : DataW H} {pl : List MemPlace}
    (hok : Value.okWide Try.prog W .any base 22 v) (h : DataW.Trod enc Try.prog W 0 (fun _ => true) true 22 v d pl) :
    ∃ a cap, ∃ L : List (List FldD), v = .slice a L.length cap ∧ ReadsR W a 4 (L.map rowV) ∧ L.length ≤ cap ∧ ∀ x ∈ L, IsFSlot x := by
  obtain ⟨a, cap, us, rfl, hr, hc, hu⟩ := open_rows (fun x : {l : List FldD // l.length = 4} => rowV x.1) (fun x => IsFSlot x.1) ⟨zeroSlot, rfl⟩ 4 (by decide) (fun x => by unfold rowV; rw [List.length_map]; exact x.2) Try.underlying22 rSlot_cells (fun hl ht => rSlot_of_trod hl ht) hok h
  refine ⟨a, cap, us.map (·.1), by rw [List.length_map], ?_, by rw [List.length_map]; exact hc, ?_⟩
  · rw [List.map_map]
    exact hr
  · intro x hx
    obtain ⟨u, hu1, rfl⟩ := List.mem_map.1 hx
    exact hu u hu1
end Go.Proofs.Ytgakidimipipeaa
