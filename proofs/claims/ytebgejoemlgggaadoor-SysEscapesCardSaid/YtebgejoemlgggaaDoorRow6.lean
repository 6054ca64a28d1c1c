/- Structs in boxes of their own: read whole, handed back. (Printed by wip/gen/row6.py.) -/
import Derived.Test.YtebgejoemlgggaaDoorVar23
namespace Go.Proofs.YtebgejoemlgggaaDoor
open Go.RowKit Go.Sort
set_option linter.unusedVariables false
set_option linter.unusedSimpArgs false
set_option maxRecDepth 100000

theorem cell_atB {w : World} {g : Nat} {cs : Array Value} {t : TypeId} (h : w.heap[g]? = some (.cells cs t (0, 0))) (j : Nat) : w.cell? ⟨g, j, none⟩ = cs[j]? := Joins.cell_of_block h j
theorem grown_setB (w : World) (a : Addr) (v : Value) : w.grownBy (w.setCell a v) (some a.block) := ⟨rfl, rfl, rfl, by simp [World.setCell], fun k hk hne => Below.heap_setCell _ _ _ _ (fun e => hne (by rw [e]))⟩
theorem grown_transB {w w' w'' : World} {row : Option Nat} (h : w.grownBy w' row) (k : w'.grownBy w'' row) : w.grownBy w'' row :=
  ⟨k.os.trans h.os, k.tape.trans h.tape, k.output.trans h.output, Nat.le_trans h.size k.size, fun j hj hne => (k.block j (Nat.lt_of_lt_of_le hj h.size) hne).trans (h.block j hj hne)⟩
theorem set_cellB {w : World} {g : Nat} {cs : Array Value} {t : TypeId} (i : Nat) (v : Value) (h : w.heap[g]? = some (.cells cs t (0, 0))) : (w.setCell ⟨g, i, none⟩ v).heap[g]? = some (.cells (cs.setIfInBounds i v) t (0, 0)) := heap_setCell_same w g i _ _ v h
theorem set_twoB {w : World} {g : Nat} {x0 x1 : Value} {t : TypeId} (a b : Value) (h : w.heap[g]? = some (.cells #[x0, x1] t (0, 0))) :
    ((w.setCell ⟨g, 0, none⟩ a).setCell ⟨g, 1, none⟩ b).heap[g]? = some (.cells #[a, b] t (0, 0)) ∧ w.grownBy ((w.setCell ⟨g, 0, none⟩ a).setCell ⟨g, 1, none⟩ b) (some g) :=
  ⟨heap_setCell_same _ g 1 _ _ b (heap_setCell_same w g 0 _ _ a h), grown_transB (grown_setB w ⟨g, 0, none⟩ a) (grown_setB _ ⟨g, 1, none⟩ b)⟩
theorem set_sixB {w : World} {g : Nat} {x0 x1 x2 x3 x4 x5 : Value} {t : TypeId} (a b c d e f : Value) (h : w.heap[g]? = some (.cells #[x0, x1, x2, x3, x4, x5] t (0, 0))) :
    ((((((w.setCell ⟨g, 0, none⟩ a).setCell ⟨g, 1, none⟩ b).setCell ⟨g, 2, none⟩ c).setCell ⟨g, 3, none⟩ d).setCell ⟨g, 4, none⟩ e).setCell ⟨g, 5, none⟩ f).heap[g]? = some (.cells #[a, b, c, d, e, f] t (0, 0)) ∧ w.grownBy ((((((w.setCell ⟨g, 0, none⟩ a).setCell ⟨g, 1, none⟩ b).setCell ⟨g, 2, none⟩ c).setCell ⟨g, 3, none⟩ d).setCell ⟨g, 4, none⟩ e).setCell ⟨g, 5, none⟩ f) (some g) := by
  have h1 := heap_setCell_same w g 0 _ _ a h
  have h2 := heap_setCell_same _ g 1 _ _ b h1
  have h3 := heap_setCell_same _ g 2 _ _ c h2
  have h4 := heap_setCell_same _ g 3 _ _ d h3
  have h5 := heap_setCell_same _ g 4 _ _ e h4
  have h6 := heap_setCell_same _ g 5 _ _ f h5
  refine ⟨h6, ?_⟩
  exact grown_transB (grown_transB (grown_transB (grown_transB (grown_transB (grown_setB w ⟨g, 0, none⟩ a) (grown_setB _ ⟨g, 1, none⟩ b)) (grown_setB _ ⟨g, 2, none⟩ c)) (grown_setB _ ⟨g, 3, none⟩ d)) (grown_setB _ ⟨g, 4, none⟩ e)) (grown_setB _ ⟨g, 5, none⟩ f)
theorem size_shp : (Tryd.prog.info? 85).map (·.size) = some 2 := by kernel_rfl
theorem row_shp : ∃ d, Tryd.prog.underlying 85 = some d ∧ d.isRow = true := by
  cases h : Tryd.prog.underlying 85 with
  | none => exact absurd h (by decide)
  | some d =>
    refine ⟨d, rfl, ?_⟩
    have : (Tryd.prog.underlying 85).map (·.isRow) = some true := by kernel_rfl
    rw [h] at this
    simpa using this
theorem load_shp {w : World} {g : Nat} {cs : List Value} {t : TypeId} (hl : cs.length = 2) (h : w.heap[g]? = some (.cells cs.toArray t (0, 0))) : (loadVar 85 ⟨g, 0, none⟩).run Tryd.prog w = .ok (.agg cs.toArray) w := by
  obtain ⟨d, ht, hr⟩ := row_shp
  refine run_loadVar_mid w g 0 85 cs d (fun j v hv => ?_) ht hr (by rw [size_shp, hl])
  rw [Nat.zero_add]
  exact (cell_atB h j).trans (by rw [List.getElem?_toArray]; exact hv)
theorem results_shp {fn : Func} {p : Tmp} (h : fn.results = #[.cell p 85]) (tmps : Array Value) (w : World) (g : Nat) {cs : List Value} {t : TypeId} (hl : cs.length = 2) (hp : tmps.getD p undef = .pointer (some ⟨g, 0, none⟩)) (hf : w.heap[g]? = some (.cells cs.toArray t (0, 0))) :
    (results fn tmps).run Tryd.prog w = .ok (.agg cs.toArray) w := by
  have e1 : (results fn tmps).run Tryd.prog w = ((asAddr (tmps.getD p undef)).run Tryd.prog w).andThen fun a w₁ => (loadVar 85 a).run Tryd.prog w₁ := by
    simp only [results, h]
    simp [Sem.run_bind, Result.andThen]
  rw [e1, hp]
  simp only [asAddr, Sem.run_pure, Result.andThen_ok, load_shp hl hf]
theorem results_shp_tmp {fn : Func} {p u : Tmp} (h : fn.results = #[.cell p 85, .tmp u]) (tmps : Array Value) (w : World) (g : Nat) {cs : List Value} {t : TypeId} (hl : cs.length = 2) (hp : tmps.getD p undef = .pointer (some ⟨g, 0, none⟩)) (hf : w.heap[g]? = some (.cells cs.toArray t (0, 0))) :
    (results fn tmps).run Tryd.prog w = .ok (.tuple #[.agg cs.toArray, tmps.getD u undef]) w := by
  rw [results_cell_tmp h, hp]
  simp only [asAddr, Sem.run_pure, Result.andThen_ok, load_shp hl hf]
theorem size_call : (Tryd.prog.info? 27).map (·.size) = some 6 := by kernel_rfl
theorem row_call : ∃ d, Tryd.prog.underlying 27 = some d ∧ d.isRow = true := by
  cases h : Tryd.prog.underlying 27 with
  | none => exact absurd h (by decide)
  | some d =>
    refine ⟨d, rfl, ?_⟩
    have : (Tryd.prog.underlying 27).map (·.isRow) = some true := by kernel_rfl
    rw [h] at this
    simpa using this
theorem load_call {w : World} {g : Nat} {cs : List Value} {t : TypeId} (hl : cs.length = 6) (h : w.heap[g]? = some (.cells cs.toArray t (0, 0))) : (loadVar 27 ⟨g, 0, none⟩).run Tryd.prog w = .ok (.agg cs.toArray) w := by
  obtain ⟨d, ht, hr⟩ := row_call
  refine run_loadVar_mid w g 0 27 cs d (fun j v hv => ?_) ht hr (by rw [size_call, hl])
  rw [Nat.zero_add]
  exact (cell_atB h j).trans (by rw [List.getElem?_toArray]; exact hv)
theorem results_call {fn : Func} {p : Tmp} (h : fn.results = #[.cell p 27]) (tmps : Array Value) (w : World) (g : Nat) {cs : List Value} {t : TypeId} (hl : cs.length = 6) (hp : tmps.getD p undef = .pointer (some ⟨g, 0, none⟩)) (hf : w.heap[g]? = some (.cells cs.toArray t (0, 0))) :
    (results fn tmps).run Tryd.prog w = .ok (.agg cs.toArray) w := by
  have e1 : (results fn tmps).run Tryd.prog w = ((asAddr (tmps.getD p undef)).run Tryd.prog w).andThen fun a w₁ => (loadVar 27 a).run Tryd.prog w₁ := by
    simp only [results, h]
    simp [Sem.run_bind, Result.andThen]
  rw [e1, hp]
  simp only [asAddr, Sem.run_pure, Result.andThen_ok, load_call hl hf]
theorem results_call_tmp {fn : Func} {p u : Tmp} (h : fn.results = #[.cell p 27, .tmp u]) (tmps : Array Value) (w : World) (g : Nat) {cs : List Value} {t : TypeId} (hl : cs.length = 6) (hp : tmps.getD p undef = .pointer (some ⟨g, 0, none⟩)) (hf : w.heap[g]? = some (.cells cs.toArray t (0, 0))) :
    (results fn tmps).run Tryd.prog w = .ok (.tuple #[.agg cs.toArray, tmps.getD u undef]) w := by
  rw [results_cell_tmp h, hp]
  simp only [asAddr, Sem.run_pure, Result.andThen_ok, load_call hl hf]
theorem size_rcall : (Tryd.prog.info? 24).map (·.size) = some 6 := by kernel_rfl
theorem row_rcall : ∃ d, Tryd.prog.underlying 24 = some d ∧ d.isRow = true := by
  cases h : Tryd.prog.underlying 24 with
  | none => exact absurd h (by decide)
  | some d =>
    refine ⟨d, rfl, ?_⟩
    have : (Tryd.prog.underlying 24).map (·.isRow) = some true := by kernel_rfl
    rw [h] at this
    simpa using this
theorem load_rcall {w : World} {g : Nat} {cs : List Value} {t : TypeId} (hl : cs.length = 6) (h : w.heap[g]? = some (.cells cs.toArray t (0, 0))) : (loadVar 24 ⟨g, 0, none⟩).run Tryd.prog w = .ok (.agg cs.toArray) w := by
  obtain ⟨d, ht, hr⟩ := row_rcall
  refine run_loadVar_mid w g 0 24 cs d (fun j v hv => ?_) ht hr (by rw [size_rcall, hl])
  rw [Nat.zero_add]
  exact (cell_atB h j).trans (by rw [List.getElem?_toArray]; exact hv)
theorem results_rcall {fn : Func} {p : Tmp} (h : fn.results = #[.cell p 24]) (tmps : Array Value) (w : World) (g : Nat) {cs : List Value} {t : TypeId} (hl : cs.length = 6) (hp : tmps.getD p undef = .pointer (some ⟨g, 0, none⟩)) (hf : w.heap[g]? = some (.cells cs.toArray t (0, 0))) :
    (results fn tmps).run Tryd.prog w = .ok (.agg cs.toArray) w := by
  have e1 : (results fn tmps).run Tryd.prog w = ((asAddr (tmps.getD p undef)).run Tryd.prog w).andThen fun a w₁ => (loadVar 24 a).run Tryd.prog w₁ := by
    simp only [results, h]
    simp [Sem.run_bind, Result.andThen]
  rw [e1, hp]
  simp only [asAddr, Sem.run_pure, Result.andThen_ok, load_rcall hl hf]
theorem results_rcall_tmp {fn : Func} {p u : Tmp} (h : fn.results = #[.cell p 24, .tmp u]) (tmps : Array Value) (w : World) (g : Nat) {cs : List Value} {t : TypeId} (hl : cs.length = 6) (hp : tmps.getD p undef = .pointer (some ⟨g, 0, none⟩)) (hf : w.heap[g]? = some (.cells cs.toArray t (0, 0))) :
    (results fn tmps).run Tryd.prog w = .ok (.tuple #[.agg cs.toArray, tmps.getD u undef]) w := by
  rw [results_cell_tmp h, hp]
  simp only [asAddr, Sem.run_pure, Result.andThen_ok, load_rcall hl hf]
end Go.Proofs.YtebgejoemlgggaaDoor
