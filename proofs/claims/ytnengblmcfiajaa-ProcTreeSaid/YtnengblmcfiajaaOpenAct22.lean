/- Acts of layer 22 that came in, opened. -/
import Derived.Test.YtnengblmcfiajaaMem
import Derived.Test.YtnengblmcfiajaaOpen
import Derived.Test.YtnengblmcfiajaaOpenRec
namespace Go.Proofs.Ytnengblmcfiajaa
open Go.ChangeShapes Go.WideShapes Go.ChangeAt Go.RowKit Go.Sort
set_option linter.unusedVariables false
set_option linter.unusedSimpArgs false
set_option maxRecDepth 100000

/-- An act on a table of processes. -/
structure Act22D where
  kind : Int
  a : Int
  b : Int
def act22V (x : Act22D) : List Value := [.int .i64 x.kind, .int .i64 x.a, .int .i64 x.b]
def Act22Fits (x : Act22D) : Prop := I64 x.kind ∧ I64 x.a ∧ I64 x.b
theorem act22_cells : Try.prog.cellsOf 31 = 3 := by kernel_rfl
theorem act22_of_trod {H : Type} {enc : TypeId × Value → H} {W : World} {m : Nat} {cs : List Value} {y : DataW H × List MemPlace} (hl : cs.length = 3)
    (h : DataW.trod enc Try.prog W 0 (fun _ => true) true m 31 cs = some y) : ∃ u, Act22Fits u ∧ act22V u = cs := by
  match cs, hl with
  | [v0, v1, v2], _ =>
    obtain ⟨ys, n', _, _, _, hyl, hf⟩ := DataW.trod_struct Try.underlying31 h
    have get : ∀ j, j < 3 → ∃ u, ys[j]? = some u := fun j hj => ⟨ys[j]'(by rw [hyl]; exact hj), List.getElem?_eq_getElem _⟩
    obtain ⟨y0, e0⟩ := get 0 (by decide)
    obtain ⟨y1, e1⟩ := get 1 (by decide)
    obtain ⟨y2, e2⟩ := get 2 (by decide)
    have f0 := (hf 0 _ rfl).trans e0
    have f1 := (hf 1 _ rfl).trans e1
    have f2 := (hf 2 _ rfl).trans e2
    replace f0 : DataW.trod enc Try.prog W 0 (fun _ => true) true n' 3 [v0] = some y0 := f0
    replace f1 : DataW.trod enc Try.prog W 0 (fun _ => true) true n' 3 [v1] = some y1 := f1
    replace f2 : DataW.trod enc Try.prog W 0 (fun _ => true) true n' 3 [v2] = some y2 := f2
    obtain ⟨x0, g0, _, w0⟩ := DataW.trod_int Try.underlying3 f0
    obtain ⟨x1, g1, _, w1⟩ := DataW.trod_int Try.underlying3 f1
    obtain ⟨x2, g2, _, w2⟩ := DataW.trod_int Try.underlying3 f2
    obtain rfl : v0 = .int .i64 x0 := by simpa using g0
    obtain rfl : v1 = .int .i64 x1 := by simpa using g1
    obtain rfl : v2 = .int .i64 x2 := by simpa using g2
    exact ⟨⟨x0, x1, x2⟩, ⟨i64_of_wf w0, i64_of_wf w1, i64_of_wf w2⟩, rfl⟩
theorem open_act22 {H : Type} {enc : TypeId × Value → H} {W : World} {base : Nat} {v : Value} {d : DataW H} {pl : List MemPlace}
    (hok : Value.okWide Try.prog W .any base 22 v) (h : DataW.Trod enc Try.prog W 0 (fun _ => true) true 22 v d pl) :
    ∃ a cap, ∃ us : List Act22D, v = .slice a us.length cap ∧ ReadsR W a 3 (rowsOf act22V us) ∧ us.length ≤ cap ∧ ∀ u ∈ us, Act22Fits u :=
  open_rows act22V Act22Fits ⟨0, 0, 0⟩ 3 (by decide) (fun _ => rfl) Try.underlying22 act22_cells (fun hl ht => act22_of_trod hl ht) hok h
end Go.Proofs.Ytnengblmcfiajaa
