/- A geometry that came in, opened. -/
import Derived.Test.YtdgmkobjdhmkdaaOpen
import Derived.Lib.SmallJoins
namespace Go.Proofs.Ytdgmkobjdhmkdaa
open Go.ChangeShapes Go.WideShapes Go.ChangeAt Go.RowKit Go.Joins
set_option linter.unusedVariables false
set_option maxRecDepth 100000

theorem open_geom {H : Type} {enc : TypeId × Value → H} {W : World} {base : Nat} {v : Value} {d : DataW H} {ps : List MemPlace}
    (hok : Value.okWide Try.prog W .any base 66 v) (h : DataW.Trod enc Try.prog W 0 (fun _ => true) true 66 v d ps) :
    ∃ s g i : Int, v = .agg #[.int .i64 s, .int .i64 g, .int .i64 i] ∧ I64 s ∧ I64 g ∧ I64 i := by
  obtain ⟨v0, v1, v2, y0, y1, y2, n, rfl, _, _, f0, f1, f2⟩ := open_agg3 Try.underlying66 (by kernel_rfl) (by kernel_rfl) hok h
  obtain ⟨a, ha, _, wa⟩ := DataW.trod_int Try.underlying3 f0
  obtain ⟨b, hb, _, wb⟩ := DataW.trod_int Try.underlying3 f1
  obtain ⟨c, hc, _, wc⟩ := DataW.trod_int Try.underlying3 f2
  simp at ha hb hc
  subst ha hb hc
  exact ⟨a, b, c, rfl, i64_of_wf wa, i64_of_wf wb, i64_of_wf wc⟩

/-- An array of three numbers that came in, opened. -/
theorem open_three {H : Type} {enc : TypeId × Value → H} {W : World} {base : Nat} {v : Value} {d : DataW H} {ps : List MemPlace}
    (hok : Value.okWide Try.prog W .any base 91 v) (h : DataW.Trod enc Try.prog W 0 (fun _ => true) true 91 v d ps) : ∃ x y z : Int, v = .agg #[.int .i64 x, .int .i64 y, .int .i64 z] ∧ I64 x ∧ I64 y ∧ I64 z := by
  obtain ⟨cs, rfl, hsz⟩ : ∃ cs, v = .agg cs ∧ cs.size = 3 := by
    unfold Value.okWide at hok
    rw [Try.underlying91] at hok
    obtain ⟨cs, h1, h2, _⟩ := hok
    exact ⟨cs, h1, h2.trans (by kernel_rfl)⟩
  obtain ⟨fuel, hf⟩ := h
  obtain ⟨xs, m, _, _, _, hxs, hel⟩ := DataW.trod_array Try.underlying91 hf
  obtain ⟨c0, c1, c2, rfl⟩ : ∃ c0 c1 c2, cs = #[c0, c1, c2] := by
    obtain ⟨l⟩ := cs
    match l, hsz with
    | [c0, c1, c2], _ => exact ⟨c0, c1, c2, rfl⟩
  have hce : Try.prog.cellsOf 3 = 1 := by kernel_rfl
  have e0 := hel 0 (by omega)
  have e1 := hel 1 (by omega)
  have e2 := hel 2 (by omega)
  rw [hce] at e0 e1 e2
  obtain ⟨y0, hy0⟩ : ∃ y, xs[0]? = some y := ⟨xs[0], List.getElem?_eq_getElem (by omega)⟩
  obtain ⟨y1, hy1⟩ : ∃ y, xs[1]? = some y := ⟨xs[1], List.getElem?_eq_getElem (by omega)⟩
  obtain ⟨y2, hy2⟩ : ∃ y, xs[2]? = some y := ⟨xs[2], List.getElem?_eq_getElem (by omega)⟩
  rw [hy0] at e0
  rw [hy1] at e1
  rw [hy2] at e2
  obtain ⟨x, f0, _, w0⟩ := DataW.trod_int Try.underlying3 (by simpa [Value.cells] using e0)
  obtain ⟨y, f1, _, w1⟩ := DataW.trod_int Try.underlying3 (by simpa [Value.cells] using e1)
  obtain ⟨z, f2, _, w2⟩ := DataW.trod_int Try.underlying3 (by simpa [Value.cells] using e2)
  simp at f0 f1 f2
  subst f0 f1 f2
  exact ⟨x, y, z, rfl, i64_of_wf w0, i64_of_wf w1, i64_of_wf w2⟩
end Go.Proofs.Ytdgmkobjdhmkdaa
