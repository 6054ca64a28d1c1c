/- Slices of structs that came in, opened: rows of N cells, whatever they are. -/
import Derived.Test.YtgakidimipipeaaRowsOf
import Derived.Test.YtgakidimipipeaaOpen
import Derived.Deep.Slices
namespace Go.Proofs.Ytgakidimipipeaa
open Go.ChangeShapes Go.WideShapes Go.RowKit Go.Deep
set_option linter.unusedVariables false
set_option maxRecDepth 100000

theorem addr_plus (b o j : Nat) : (⟨b, o, none⟩ : Addr).add j = ⟨b, o + j, none⟩ := by unfold Addr.add; split <;> simp_all
theorem u32_of_wf' {n : Int} (h : (Lit.int .u32 n).wf = true) : 0 ≤ n ∧ n < 4294967296 := by
  simp [Lit.wf, IntKind.min, IntKind.max, IntKind.signed, IntKind.bits] at h
  exact ⟨by omega, by omega⟩
def rowsOf {α : Type} (V : α → List Value) (l : List α) : List (List Value) := l.map V
theorem rowsOf_length {α : Type} (V : α → List Value) (l : List α) : (rowsOf V l).length = l.length := by unfold rowsOf; rw [List.length_map]
theorem rowsOf_get {α : Type} {V : α → List Value} {l : List α} {i : Nat} {u : α} (h : l[i]? = some u) : (rowsOf V l)[i]? = some (V u) := by unfold rowsOf; rw [List.getElem?_map, h]; rfl
theorem rowsOf_rows {α : Type} {V : α → List Value} {N : Nat} (hV : ∀ x, (V x).length = N) (l : List α) : ∀ p ∈ rowsOf V l, p.length = N := by
  intro p hp
  unfold rowsOf at hp
  rw [List.mem_map] at hp
  obtain ⟨u, _, rfl⟩ := hp
  exact hV u
theorem open_rows {H : Type} {enc : TypeId × Value → H} {W : World} {base : Nat} {v : Value} {d : DataW H} {pl : List MemPlace} {α : Type} (V : α → List Value) (F : α → Prop) (dflt : α) (N : Nat) (hN : 0 < N) (hV : ∀ x, (V x).length = N) {t e : TypeId}
    (ht : Try.prog.underlying t = some (.slice e)) (hcells : Try.prog.cellsOf e = N)
    (helem : ∀ {m b o : Nat} {cs : List Value} {y : DataW H × List MemPlace}, cs.length = N → DataW.trod enc Try.prog W 0 (fun _ => true) true m e cs = some y → ∃ u, F u ∧ V u = cs)
    (hok : Value.okWide Try.prog W .any base t v) (h : DataW.Trod enc Try.prog W 0 (fun _ => true) true t v d pl) :
    ∃ a cap, ∃ us : List α, v = .slice a us.length cap ∧ ReadsR W a N (rowsOf V us) ∧ us.length ≤ cap ∧ ∀ u ∈ us, F u := by
  obtain ⟨a0, len0, cap0, rfl⟩ := okWide_slice ht hok
  obtain ⟨fuel, hf⟩ := h
  rcases open_slice ht hf with ⟨hcs, _⟩ | ⟨x, len, cap, m, n, D, Pl, hcs, _, hl, hm, hmm, _, hi⟩
  · simp [Value.cells] at hcs
    obtain ⟨rfl, rfl, rfl⟩ := hcs
    exact ⟨none, 0, [], rfl, ReadsR.nil _ _ _, Nat.le_refl _, by simp⟩
  · simp [Value.cells] at hcs
    obtain ⟨rfl, rfl, rfl⟩ := hcs
    simp only [if_true] at hmm
    subst hmm
    by_cases h0 : len0 = 0
    · subst h0
      exact ⟨some x, m, [], rfl, ReadsR.nil _ _ _, Nat.zero_le _, by simp⟩
    · obtain ⟨b, off, spot⟩ := x
      rw [hcells] at hi
      obtain ⟨cs0, hc0, _⟩ := hi 0 (by omega)
      have hs0 := (World.cells?_some hc0).2.2 0 hN
      have hl0 := (World.cells?_some hc0).2.1
      rw [List.getElem?_eq_getElem (by omega)] at hs0
      have hspot : spot = none := by simpa [Addr.add] using World.cell?_spot hs0
      subst hspot
      have hbl : b < W.heap.size := by
        have := World.block_lt_of_cell? _ _ hs0
        rw [addr_plus, addr_plus] at this
        exact this
      have hex : ∀ i, ∃ u, i < len0 → F u ∧ ∀ j x, (V u)[j]? = some x → W.cell? ⟨b, off + i * N + j, none⟩ = some x := fun i => by
        by_cases hil : i < len0
        · obtain ⟨cs, hc, ht⟩ := hi i (by omega)
          obtain ⟨_, hcl, hat⟩ := World.cells?_some hc
          obtain ⟨u, hu, rfl⟩ := helem (b := b) (o := off) hcl ht
          refine ⟨u, fun _ => ⟨hu, fun j x hj => ?_⟩⟩
          have hjN : j < N := by rw [← hV u]; exact (List.getElem?_eq_some_iff.1 hj).1
          have := hat j hjN
          rw [addr_plus, addr_plus] at this
          rw [this]
          exact hj
        · exact ⟨dflt, fun h => absurd h hil⟩
      obtain ⟨f, hf⟩ := Classical.skolem.1 hex
      have hus : ∀ i, i < len0 → ((List.range len0).map f)[i]? = some (f i) := fun i hil => by rw [List.getElem?_map, List.getElem?_range hil]; rfl
      have hlen : ((List.range len0).map f).length = len0 := by simp
      refine ⟨some ⟨b, off, none⟩, m, (List.range len0).map f, by rw [hlen], ⟨rowsOf_rows hV _, .inr ⟨b, off, rfl, hbl, fun i x hx => ?_⟩⟩, by rw [hlen]; exact hl, fun u hu => ?_⟩
      · have hlt := (List.getElem?_eq_some_iff.1 hx).1
        rw [flatR_length (rowsOf_rows hV _), rowsOf_length, hlen] at hlt
        have hd : i = (i / N) * N + i % N := by rw [Nat.mul_comm]; exact (Nat.div_add_mod i N).symm
        have hq : i / N < len0 := Nat.div_lt_of_lt_mul (by rw [Nat.mul_comm]; exact hlt)
        have hm3 : i % N < N := Nat.mod_lt _ hN
        rw [hd, flatR_get (rowsOf_rows hV _) (rowsOf_get (hus _ hq)) hm3] at hx
        have := (hf _ hq).2 _ x hx
        rw [Nat.add_assoc, ← hd] at this
        exact this
      · obtain ⟨j, hj, rfl⟩ := List.mem_map.1 hu
        exact (hf j (List.mem_range.1 hj)).1

/-! ### The inode map's acts -/
structure Act10D where
  kind : Int
  num : Int
  n : Int
  s0 : Int
  s1 : Int
  s2 : Int
  s3 : Int
def act10V (x : Act10D) : List Value := [.int .i64 x.kind, .int .i64 x.num, .int .i64 x.n, .int .i64 x.s0, .int .u32 x.s1, .int .i64 x.s2, .int .i64 x.s3]
def Act10Fits (x : Act10D) : Prop := I64 x.kind ∧ I64 x.num ∧ I64 x.n ∧ I64 x.s0 ∧ (0 ≤ x.s1 ∧ x.s1 < 4294967296) ∧ I64 x.s2 ∧ I64 x.s3
theorem act10_cells : Try.prog.cellsOf 52 = 7 := by kernel_rfl
theorem rslot_of_trod {H : Type} {enc : TypeId × Value → H} {W : World} {m : Nat} {v0 v1 v2 v3 : Value} {y : DataW H × List MemPlace}
    (h : DataW.trod enc Try.prog W 0 (fun _ => true) true m 27 [v0, v1, v2, v3] = some y) : ∃ x0 x1 x2 x3 : Int, v0 = .int .i64 x0 ∧ v1 = .int .u32 x1 ∧ v2 = .int .i64 x2 ∧ v3 = .int .i64 x3 ∧ I64 x0 ∧ (0 ≤ x1 ∧ x1 < 4294967296) ∧ I64 x2 ∧ I64 x3 := by
  obtain ⟨ys, n', _, _, _, hyl, hf⟩ := DataW.trod_struct Try.underlying27 h
  have get : ∀ j, j < 4 → ∃ u, ys[j]? = some u := fun j hj => ⟨ys[j]'(by rw [hyl]; exact hj), List.getElem?_eq_getElem _⟩
  obtain ⟨y0, e0⟩ := get 0 (by decide)
  obtain ⟨y1, e1⟩ := get 1 (by decide)
  obtain ⟨y2, e2⟩ := get 2 (by decide)
  obtain ⟨y3, e3⟩ := get 3 (by decide)
  have f0 := (hf 0 _ rfl).trans e0
  have f1 := (hf 1 _ rfl).trans e1
  have f2 := (hf 2 _ rfl).trans e2
  have f3 := (hf 3 _ rfl).trans e3
  replace f0 : DataW.trod enc Try.prog W 0 (fun _ => true) true n' 3 [v0] = some y0 := f0
  replace f1 : DataW.trod enc Try.prog W 0 (fun _ => true) true n' 25 [v1] = some y1 := f1
  replace f2 : DataW.trod enc Try.prog W 0 (fun _ => true) true n' 3 [v2] = some y2 := f2
  replace f3 : DataW.trod enc Try.prog W 0 (fun _ => true) true n' 3 [v3] = some y3 := f3
  obtain ⟨x0, g0, _, w0⟩ := DataW.trod_int Try.underlying3 f0
  obtain ⟨x1, g1, _, w1⟩ := DataW.trod_int Try.underlying25 f1
  obtain ⟨x2, g2, _, w2⟩ := DataW.trod_int Try.underlying3 f2
  obtain ⟨x3, g3, _, w3⟩ := DataW.trod_int Try.underlying3 f3
  exact ⟨x0, x1, x2, x3, by simpa using g0, by simpa using g1, by simpa using g2, by simpa using g3, i64_of_wf w0, u32_of_wf' w1, i64_of_wf w2, i64_of_wf w3⟩
theorem act10_of_trod {H : Type} {enc : TypeId × Value → H} {W : World} {m : Nat} {cs : List Value} {y : DataW H × List MemPlace} (hl : cs.length = 7)
    (h : DataW.trod enc Try.prog W 0 (fun _ => true) true m 52 cs = some y) : ∃ u, Act10Fits u ∧ act10V u = cs := by
  match cs, hl with
  | [v0, v1, v2, v3, v4, v5, v6], _ =>
    obtain ⟨ys, n', _, _, _, hyl, hf⟩ := DataW.trod_struct Try.underlying52 h
    have get : ∀ j, j < 4 → ∃ u, ys[j]? = some u := fun j hj => ⟨ys[j]'(by rw [hyl]; exact hj), List.getElem?_eq_getElem _⟩
    obtain ⟨y0, e0⟩ := get 0 (by decide)
    obtain ⟨y1, e1⟩ := get 1 (by decide)
    obtain ⟨y2, e2⟩ := get 2 (by decide)
    obtain ⟨y3, e3⟩ := get 3 (by decide)
    have f0 := (hf 0 _ rfl).trans e0
    have f1 := (hf 1 _ rfl).trans e1
    have f2 := (hf 2 _ rfl).trans e2
    have f3 := (hf 3 _ rfl).trans e3
    replace f0 : DataW.trod enc Try.prog W 0 (fun _ => true) true n' 3 [v0] = some y0 := f0
    replace f1 : DataW.trod enc Try.prog W 0 (fun _ => true) true n' 3 [v1] = some y1 := f1
    replace f2 : DataW.trod enc Try.prog W 0 (fun _ => true) true n' 3 [v2] = some y2 := f2
    replace f3 : DataW.trod enc Try.prog W 0 (fun _ => true) true n' 27 [v3, v4, v5, v6] = some y3 := f3
    obtain ⟨x0, g0, _, w0⟩ := DataW.trod_int Try.underlying3 f0
    obtain ⟨x1, g1, _, w1⟩ := DataW.trod_int Try.underlying3 f1
    obtain ⟨x2, g2, _, w2⟩ := DataW.trod_int Try.underlying3 f2
    obtain ⟨x3, x4, x5, x6, rfl, rfl, rfl, rfl, k0, k1, k2, k3⟩ := rslot_of_trod f3
    obtain rfl : v0 = .int .i64 x0 := by simpa using g0
    obtain rfl : v1 = .int .i64 x1 := by simpa using g1
    obtain rfl : v2 = .int .i64 x2 := by simpa using g2
    exact ⟨⟨x0, x1, x2, x3, x4, x5, x6⟩, ⟨i64_of_wf w0, i64_of_wf w1, i64_of_wf w2, k0, k1, k2, k3⟩, rfl⟩
theorem open_act10 {H : Type} {enc : TypeId × Value → H} {W : World} {base : Nat} {v : Value} {d : DataW H} {pl : List MemPlace}
    (hok : Value.okWide Try.prog W .any base 44 v) (h : DataW.Trod enc Try.prog W 0 (fun _ => true) true 44 v d pl) :
    ∃ a cap, ∃ us : List Act10D, v = .slice a us.length cap ∧ ReadsR W a 7 (rowsOf act10V us) ∧ us.length ≤ cap ∧ ∀ u ∈ us, Act10Fits u :=
  open_rows act10V Act10Fits ⟨0, 0, 0, 0, 0, 0, 0⟩ 7 (by decide) (fun _ => rfl) Try.underlying44 act10_cells (fun hl ht => act10_of_trod hl ht) hok h
end Go.Proofs.Ytgakidimipipeaa
