/- A law's walk, lifted, where the row lists a variable; the bounds of ptr's levels, read of it. -/
import Derived.Test.YtcpbffmffoneeaaDoorOpen
import Derived.Test.YtcpbffmffoneeaaDoorRows
import Derived.LaidMore
import Derived.LaidLaws
import Derived.LaidHandle
import Derived.MakeChecks
import Derived.Stop.Joined
namespace Go.Proofs.YtcpbffmffoneeaaDoor
open Go.ChangeShapes Go.WideShapes Go.ChangeAt Go.RowKit
set_option linter.unusedVariables false
set_option maxRecDepth 100000

/-- A law's walk, lifted: it answers true, and what was there is as it was; the listed variables read as listed. -/
theorem law_laid {H : Type} {enc : TypeId × Value → H} {os : Os} (started : os.Started) {L : List (String × DataW Unit)} {K : FuncId} {fn : Func} {s : ChangeSpec} (hfn : Tryd.prog.funcs[K]? = some fn) (noInit : Tryd.prog.inits.idxOf? K = none) (hvars : s.vars = [])
    (hspec : ∀ ds : List (DataW H), ds.length = fn.params.toList.length → s.fn H ds = { results := [.lit (.bool true)], args := ds }) (hres : fn.resultTypes = #[4])
    (hread : ∀ t ∈ fn.params.toList, Tryd.prog.readableRec t = true ∧ t < Tryd.prog.types.size)
    (witness : ∃ (w : World) (tape : Tape) (i : Input), w.os = os ∧ (w.forCall tape i).Shaped Tryd.checked.prog ∧ i.vars = [] ∧ Input.okWide Tryd.checked.prog (w.forCall tape i) .any w.heap.size K i ∧
      ((s.pre enc Tryd.checked.prog fn [] false (w.forCall tape i).memory i.args ∧ laidMetH Tryd.checked.prog L (w.forCall tape i).memory) ∧ sizedMet enc Tryd.checked.prog fn (OpenSpec.ofChange s) false (w.forCall tape i).memory i.args) ∧ ({ } : Assume).holds Tryd.checked.prog (lone (Frame.enter Tryd.checked.prog K i.args .normal) [] (w.forCall tape i)))
    (walk : ∀ (W : World) (base : Nat) (args : Array Value) (ds : List (DataW H)) (ps : List MemPlace),
      (∀ (j : Nat) t v, fn.params[j]? = some t → args[j]? = some v → Value.okWide Tryd.prog W .any base t v) →
      DataW.TrodAll enc Tryd.prog W 0 (fun _ => true) true fn.params.toList args.toList ds ps →
      (DataW.weightsEach Tryd.prog fn.params.toList ds).all (· ≤ reachBytes) = true → laidMetH Tryd.prog L W →
      Calls Tryd.prog K args W fun e W' => e = .returned (.bool true) ∧ Below W.heap.size W W') :
    ReturnsInHanded {} Tryd.checked os K .any (fun w args => (s.pre enc Tryd.prog fn [] false w args ∧ laidMetH Tryd.prog L w) ∧ sizedMet enc Tryd.prog fn (OpenSpec.ofChange s) false w args) (s.post enc Tryd.prog fn false true false false) := by
  refine returnsInHanded_of_change_and (C := Tryd.checked) (X := fun w _ => laidMetH Tryd.prog L w) (fun _ _ _ hh h => h.of_heap hh) own started noInit hfn witness ?_
  intro W base args ds gs before hval hW hcnd hsz hL _
  have hW' := hW
  obtain ⟨p, q, hA, hV, rfl, hfz, hnd⟩ := hW
  rw [hvars] at hV
  obtain ⟨rfl, rfl⟩ := trodVars_none hV
  have hsz' : (DataW.weightsEach Tryd.prog fn.params.toList ds).all (· ≤ reachBytes) = true := by
    have e : s.plain.varTypes Tryd.prog = [] := by simp [ChangeSpec.plain, DataSpec.varTypes, hvars]
    have hsz2 : (DataW.weightsEach Tryd.prog (fn.params.toList ++ s.plain.varTypes Tryd.prog) (ds ++ [])).all (· ≤ reachBytes) = true := hsz
    rw [e, List.append_nil, List.append_nil] at hsz2
    exact hsz2
  refine (walk W base args ds p hval hA hsz' hL).mono fun e W' ⟨he, bel⟩ => ?_
  subst he
  refine ⟨_, rfl, ds, [], _, [], p, [], hW', ?_, ?_, ?_, bel.frame _, fun h => by cases h⟩
  · rw [List.append_nil, hspec ds (trodAll_length hA), hres]
    exact trodAll_mk1 (shut_bool Tryd.underlying4 _)
  · rw [List.append_nil, hspec ds (trodAll_length hA)]
    exact trodAll_below bel hread hA
  · rw [List.append_nil, hspec ds (trodAll_length hA), hvars]
    rfl

/-- The bounds, in a world by itself. -/
def BoundsAt (w : World) : Prop := 0 < w.heap.size ∧ w.cell? ⟨0, 0, none⟩ = some (.int .i64 0) ∧ w.cell? ⟨0, 1, none⟩ = some (.int .i64 8) ∧ w.cell? ⟨0, 2, none⟩ = some (.int .i64 40) ∧ w.cell? ⟨0, 3, none⟩ = some (.int .i64 1064)
theorem BoundsAt.below {w w' : World} (h : BoundsAt w) (b : Below w.heap.size w w') : BoundsAt w' :=
  ⟨Nat.lt_of_lt_of_le h.1 b.size, (b.cell (p := ⟨0, 0, none⟩) h.1).trans h.2.1, (b.cell (p := ⟨0, 1, none⟩) h.1).trans h.2.2.1, (b.cell (p := ⟨0, 2, none⟩) h.1).trans h.2.2.2.1, (b.cell (p := ⟨0, 3, none⟩) h.1).trans h.2.2.2.2⟩
theorem BoundsAt.since {w W w' : World} (h : BoundsAt w) (b : Below w.heap.size w w') : BoundsAt w' := h.below b
theorem gBounds : Tryd.prog.globalNamed "drumlin/ptr.bounds" = some 0 := by kernel_rfl
theorem tBounds : (Tryd.prog.globals[0]?).map (·.type) = some 79 := by kernel_rfl
theorem bounds_of_laid {W : World} (h : laidMetH Tryd.prog [("drumlin/ptr.bounds", Rows.laid_drumlin_ptr_bounds)] W) : BoundsAt W := by
  rw [MakeChecks.laidMetH_plain _ _ _ (by kernel_rfl)] at h
  obtain ⟨ps, ⟨g1, t1, cs1, f1, p1, q1, hg1, ht1, hv1, hd1, _, _⟩, _, _⟩ := h
  obtain rfl := Option.some.inj (gBounds.symm.trans hg1)
  obtain rfl := Option.some.inj (tBounds.symm.trans ht1)
  obtain ⟨xs, m1, rfl, hx1, hlen, hn3, hel⟩ := DataW.trod_array Tryd.underlying79 hd1
  have c3 : Tryd.prog.cellsOf 3 = 1 := by kernel_rfl
  have h0 := hel 0 (by decide)
  have h1 := hel 1 (by decide)
  have h2 := hel 2 (by decide)
  have h3 := hel 3 (by decide)
  unfold Rows.laid_drumlin_ptr_bounds at hx1
  simp only [Prod.mk.injEq, DataW.agg.injEq] at hx1
  match xs, hn3, hx1, h0, h1, h2, h3 with
  | [x0, x1, x2, x3], _, hx1, h0, h1, h2, h3 =>
    simp only [List.map_cons, List.map_nil, List.cons.injEq] at hx1
    obtain ⟨k0, e0, e0', _⟩ := DataW.trod_int Tryd.underlying3 (show DataW.trod _ Tryd.prog W 0 _ false m1 3 _ = some x0 from h0)
    obtain ⟨k1, e1, e1', _⟩ := DataW.trod_int Tryd.underlying3 (show DataW.trod _ Tryd.prog W 0 _ false m1 3 _ = some x1 from h1)
    obtain ⟨k2, e2, e2', _⟩ := DataW.trod_int Tryd.underlying3 (show DataW.trod _ Tryd.prog W 0 _ false m1 3 _ = some x2 from h2)
    obtain ⟨k3, e3, e3', _⟩ := DataW.trod_int Tryd.underlying3 (show DataW.trod _ Tryd.prog W 0 _ false m1 3 _ = some x3 from h3)
    have hk0 : k0 = 0 := by rw [e0'] at hx1; simpa using hx1.1.1.symm
    have hk1 : k1 = 8 := by rw [e1'] at hx1; simpa using hx1.1.2.1.symm
    have hk2 : k2 = 40 := by rw [e2'] at hx1; simpa using hx1.1.2.2.1.symm
    have hk3 : k3 = 1064 := by rw [e3'] at hx1; simpa using hx1.1.2.2.2.1.symm
    subst hk0 hk1 hk2 hk3
    rw [c3] at e0 e1 e2 e3
    obtain ⟨l1⟩ := cs1
    have v0 := World.var?_cell hg1 hv1 0
    have v1 := World.var?_cell hg1 hv1 1
    have v2 := World.var?_cell hg1 hv1 2
    have v3 := World.var?_cell hg1 hv1 3
    match l1, e0, e1, e2, e3 with
    | d0 :: d1 :: d2 :: d3 :: _, e0, e1, e2, e3 =>
      simp at e0 e1 e2 e3
      subst e0 e1 e2 e3
      have w0 : W.cell? ⟨0, 0, none⟩ = some (.int .i64 0) := by simpa using v0
      exact ⟨World.block_lt_of_cell? _ _ w0, w0, by simpa using v1, by simpa using v2, by simpa using v3⟩
end Go.Proofs.YtcpbffmffoneeaaDoor
