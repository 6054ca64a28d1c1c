/- A geometry that came in, opened. -/
import Derived.Test.YtedhfgadphjobaaOpen
import Derived.Lib.SmallJoins
namespace Go.Proofs.Ytedhfgadphjobaa
open Go.ChangeShapes Go.WideShapes Go.ChangeAt Go.RowKit Go.Joins
set_option linter.unusedVariables false
set_option maxRecDepth 100000

theorem open_geom {H : Type} {enc : TypeId × Value → H} {W : World} {base : Nat} {v : Value} {d : DataW H} {ps : List MemPlace}
    (hok : Value.okWide Try.prog W .any base 66 v) (h : DataW.Trod enc Try.prog W 0 (fun _ => true) true 66 v d ps) :
    ∃ s g i : Int, v = .agg #[.int .i64 s, .int .i64 g, .int .i64 i] ∧ I64 s ∧ I64 g ∧ I64 i := by
  obtain ⟨v0, v1, v2, y0, y1, y2, n, rfl, _, _, f0, f1, f2⟩ := open_agg3 Try.underlying66 (by kernel_rfl) (by kernel_rfl) hok h
  obtain ⟨a, ha, _, wa⟩ := DataW.trod_int Try.underlying3 f0
  obtain ⟨b, hb, _, wb⟩ := DataW.trod_int Try.underlying3 f1
  obtain ⟨c, hc, _, wc⟩ := DataW.trod_int Try.underlying3 f2
  simp at ha hb hc
  subst ha hb hc
  exact ⟨a, b, c, rfl, i64_of_wf wa, i64_of_wf wb, i64_of_wf wc⟩

end Go.Proofs.Ytedhfgadphjobaa
