/- A block of entries that came in, opened. -/
import Derived.Test.YtpnafikmbbnecaaDir11
import Derived.Test.YtpnafikmbbnecaaOpen
import Derived.Deep.Slices
namespace Go.Proofs.Ytpnafikmbbnecaa
open Go.ChangeShapes Go.WideShapes Go.ChangeAt Go.RowKit Go.Sort
set_option linter.unusedVariables false
set_option linter.unusedSimpArgs false
set_option maxRecDepth 100000

theorem ent_of_trod {H : Type} {enc : TypeId × Value → H} {W : World} {m : Nat} {v0 v1 : Value} {y : DataW H × List MemPlace}
    (h : DataW.trod enc Try.prog W 0 (fun _ => true) true m 32 [v0, v1] = some y) : ∃ x : Ent, (I64 x.1 ∧ x.2.size ≤ maxLen) ∧ v0 = .int .i64 x.1 ∧ v1 = .string x.2 := by
  obtain ⟨ys, n', _, _, _, hyl, hf⟩ := DataW.trod_struct Try.underlying32 h
  have get : ∀ j, j < 2 → ∃ u, ys[j]? = some u := fun j hj => ⟨ys[j]'(by rw [hyl]; exact hj), List.getElem?_eq_getElem _⟩
  obtain ⟨y0, e0⟩ := get 0 (by decide)
  obtain ⟨y1, e1⟩ := get 1 (by decide)
  have f0 := (hf 0 _ rfl).trans e0
  have f1 := (hf 1 _ rfl).trans e1
  replace f0 : DataW.trod enc Try.prog W 0 (fun _ => true) true n' 3 [v0] = some y0 := f0
  replace f1 : DataW.trod enc Try.prog W 0 (fun _ => true) true n' 9 [v1] = some y1 := f1
  obtain ⟨x0, g0, _, w0⟩ := DataW.trod_int Try.underlying3 f0
  obtain ⟨x1, g1, _, w1⟩ := DataW.trod_string Try.underlying9 f1
  exact ⟨(x0, x1), ⟨i64_of_wf w0, w1⟩, by simpa using g0, by simpa using g1⟩
theorem open_ents {H : Type} {enc : TypeId × Value → H} {W : World} {base : Nat} {v : Value} {d : DataW H} {ps : List MemPlace}
    (hok : Value.okWide Try.prog W .any base 33 v) (h : DataW.Trod enc Try.prog W 0 (fun _ => true) true 33 v d ps) :
    ∃ E : List Ent, v = .agg (csE E) ∧ E.length = 4 ∧ ∀ x ∈ E, I64 x.1 ∧ x.2.size ≤ maxLen := by
  obtain ⟨cs, rfl, hsz⟩ : ∃ cs, v = .agg cs ∧ cs.size = 8 := by
    unfold Value.okWide at hok
    rw [Try.underlying33] at hok
    obtain ⟨cs, h1, h2, _⟩ := hok
    exact ⟨cs, h1, h2.trans (by kernel_rfl)⟩
  obtain ⟨fuel, hf⟩ := h
  obtain ⟨xs, m, _, _, _, hxs, hel⟩ := DataW.trod_array Try.underlying33 hf
  have hce : Try.prog.cellsOf 32 = 2 := by kernel_rfl
  clear hf hok
  obtain ⟨l⟩ := cs
  match l, hsz with
  | [v0, v1, v2, v3, v4, v5, v6, v7], _ =>
    have get : ∀ j, j < 4 → ∃ u, xs[j]? = some u := fun j hj => ⟨xs[j]'(by rw [hxs]; exact hj), List.getElem?_eq_getElem _⟩
    obtain ⟨y0, e0⟩ := get 0 (by decide)
    obtain ⟨y1, e1⟩ := get 1 (by decide)
    obtain ⟨y2, e2⟩ := get 2 (by decide)
    obtain ⟨y3, e3⟩ := get 3 (by decide)
    have f0 := (hel 0 (by decide)).trans e0
    have f1 := (hel 1 (by decide)).trans e1
    have f2 := (hel 2 (by decide)).trans e2
    have f3 := (hel 3 (by decide)).trans e3
    rw [hce] at f0 f1 f2 f3
    obtain ⟨x0, k0, rfl, rfl⟩ := ent_of_trod (v0 := v0) (v1 := v1) f0
    obtain ⟨x1, k1, rfl, rfl⟩ := ent_of_trod (v0 := v2) (v1 := v3) f1
    obtain ⟨x2, k2, rfl, rfl⟩ := ent_of_trod (v0 := v4) (v1 := v5) f2
    obtain ⟨x3, k3, rfl, rfl⟩ := ent_of_trod (v0 := v6) (v1 := v7) f3
    refine ⟨[x0, x1, x2, x3], rfl, rfl, ?_⟩
    intro x hx
    simp only [List.mem_cons, List.not_mem_nil, or_false] at hx
    rcases hx with rfl | rfl | rfl | rfl
    · exact k0
    · exact k1
    · exact k2
    · exact k3
end Go.Proofs.Ytpnafikmbbnecaa
