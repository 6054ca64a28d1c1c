/- Numbers as values. -/
import Derived.Test.YtcpbffmffoneeaaDoorVals
import Derived.Test.YtcpbffmffoneeaaDoorOpenI
namespace Go.Proofs.YtcpbffmffoneeaaDoor
open Go.RowKit
set_option linter.unusedVariables false
set_option linter.unusedSimpArgs false
set_option maxRecDepth 100000

def intsV (l : List Int) : List Value := l.map (Value.int .i64)
theorem intsV_length (l : List Int) : (intsV l).length = l.length := List.length_map ..
theorem intsV_append (l m : List Int) : intsV (l ++ m) = intsV l ++ intsV m := List.map_append
theorem intsV_one (l : List Int) : OneCells (intsV l) := by
  intro u hu
  unfold intsV at hu
  rw [List.mem_map] at hu
  obtain ⟨x, _, rfl⟩ := hu
  rfl
theorem readsI_of_V {w : World} {a : Option Addr} {len : Nat} {l : List Int} (h : ReadsV w a len (intsV l)) : ReadsI w a len l := by
  obtain ⟨h1, h2⟩ := h
  rw [intsV_length] at h1
  refine ⟨h1, ?_⟩
  rcases h2 with h2 | ⟨b, off, rfl, hb, hc⟩
  · exact .inl (List.map_eq_nil_iff.1 h2)
  · refine .inr ⟨b, off, rfl, hb, fun i hi => hc i _ ?_⟩
    unfold intsV
    rw [List.getElem?_map, List.getElem?_eq_getElem (by omega)]
    rfl
theorem readsV_of_I {w : World} {a : Option Addr} {len : Nat} {l : List Int} (h : ReadsI w a len l) : ReadsV w a len (intsV l) := by
  obtain ⟨h1, h2⟩ := h
  refine ⟨by rw [intsV_length]; exact h1, ?_⟩
  rcases h2 with rfl | ⟨b, off, rfl, hb, hc⟩
  · exact .inl rfl
  · refine .inr ⟨b, off, rfl, hb, fun i u hu => ?_⟩
    unfold intsV at hu
    rw [List.getElem?_map] at hu
    cases hx : l[i]? with
    | none => rw [hx] at hu; cases hu
    | some x =>
      rw [hx] at hu
      have hi : i < len := by have := (List.getElem?_eq_some_iff.1 hx).1; omega
      rw [hc i hi, hx, ← hu]
      rfl
theorem info_int : (Tryd.prog.info? 3).map (fun i => (i.zero, i.size, i.bytes)) = some (some (.int .i64 0), 1, 8) := by kernel_rfl
end Go.Proofs.YtcpbffmffoneeaaDoor
