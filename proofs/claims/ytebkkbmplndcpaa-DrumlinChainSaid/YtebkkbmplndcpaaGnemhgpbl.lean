/- Turns of the chain that came in, opened. -/
import Derived.Test.YtebkkbmplndcpaaGgbpnapjg
import Derived.Test.YtebkkbmplndcpaaOpen
import Derived.Test.YtebkkbmplndcpaaGbgmncbfe
namespace Go.Proofs.Ytebkkbmplndcpaa
open Go.ChangeShapes Go.WideShapes Go.ChangeAt Go.RowKit Go.Sort
set_option linter.unusedVariables false
set_option linter.unusedSimpArgs false
set_option maxRecDepth 100000

def TurnFits (x : Int × Int) : Prop := I64 x.1 ∧ I64 x.2
theorem turn_cells : Try.prog.cellsOf 65 = 2 := by kernel_rfl
theorem turn_of_trod {H : Type} {enc : TypeId × Value → H} {W : World} {m : Nat} {cs : List Value} {y : DataW H × List MemPlace} (hl : cs.length = 2)
    (h : DataW.trod enc Try.prog W 0 (fun _ => true) true m 65 cs = some y) : ∃ u, TurnFits u ∧ turnV u = cs := by
  match cs, hl with
  | [v0, v1], _ =>
    obtain ⟨ys, n', _, _, _, hyl, hf⟩ := DataW.trod_struct Try.underlying65 h
    have get : ∀ j, j < 2 → ∃ u, ys[j]? = some u := fun j hj => ⟨ys[j]'(by rw [hyl]; exact hj), List.getElem?_eq_getElem _⟩
    obtain ⟨y0, e0⟩ := get 0 (by decide)
    obtain ⟨y1, e1⟩ := get 1 (by decide)
    have f0 := (hf 0 _ rfl).trans e0
    have f1 := (hf 1 _ rfl).trans e1
    replace f0 : DataW.trod enc Try.prog W 0 (fun _ => true) true n' 3 [v0] = some y0 := f0
    replace f1 : DataW.trod enc Try.prog W 0 (fun _ => true) true n' 3 [v1] = some y1 := f1
    obtain ⟨x0, g0, _, w0⟩ := DataW.trod_int Try.underlying3 f0
    obtain ⟨x1, g1, _, w1⟩ := DataW.trod_int Try.underlying3 f1
    obtain rfl : v0 = .int .i64 x0 := by simpa using g0
    obtain rfl : v1 = .int .i64 x1 := by simpa using g1
    exact ⟨(x0, x1), ⟨i64_of_wf w0, i64_of_wf w1⟩, rfl⟩
theorem open_turns {H : Type} {enc : TypeId × Value → H} {W : World} {base : Nat} {v : Value} {d : DataW H} {pl : List MemPlace}
    (hok : Value.okWide Try.prog W .any base 47 v) (h : DataW.Trod enc Try.prog W 0 (fun _ => true) true 47 v d pl) :
    ∃ a cap, ∃ us : List (Int × Int), v = .slice a us.length cap ∧ ReadsR W a 2 (rowsOf turnV us) ∧ us.length ≤ cap ∧ ∀ u ∈ us, TurnFits u :=
  open_rows turnV TurnFits (0, 0) 2 (by decide) (fun _ => rfl) Try.underlying47 turn_cells (fun hl ht => turn_of_trod hl ht) hok h
end Go.Proofs.Ytebkkbmplndcpaa
