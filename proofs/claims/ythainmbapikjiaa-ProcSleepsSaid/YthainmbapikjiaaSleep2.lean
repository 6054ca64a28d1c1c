/- Sleepers: the table and the map side by side. -/
import Derived.Test.YthainmbapikjiaaSleep1
import Derived.Test.YthainmbapikjiaaProc14
import Derived.Test.YthainmbapikjiaaMq22
import Derived.Test.YthainmbapikjiaaOpenI
namespace Go.Proofs.Ythainmbapikjiaa
open Go.RowKit Go.Sort
set_option linter.unusedVariables false
set_option linter.unusedSimpArgs false
set_option maxRecDepth 100000

theorem IsTable.keptO {B : Nat} {w w' : World} {g gs cap r : Nat} {T : TabD} (h : IsTable B w g gs cap T) (hg : w.grownBy w' (some r)) (h1 : r ≠ g) (h2 : r ≠ gs) : IsTable B w' g gs cap T :=
  ⟨(hg.block g (table_lt h).1 (by intro e; exact h1 (Option.some.inj e).symm)).trans h.1, h.2.1.kept hg (.inr (by intro e; exact h2 (Option.some.inj e).symm)), h.2.2⟩
theorem IsWh.keptT {B : Nat} {w w' : World} {b n sz g gs : Nat} {p : Int → Bool} {F : Int → Int} (h : IsWh B w b n sz p F) (k : TKeeps g gs w w') (h1 : b ≠ g) (h2 : b ≠ gs) : IsWh B w' b n sz p F := by
  have hlt := h.lt
  obtain ⟨h0, D, ⟨es, cl, hb, rest⟩, h3⟩ := h
  exact ⟨h0, D, ⟨es, cl, (k.block b hlt h1 h2).trans hb, rest⟩, h3⟩
theorem IsWh.neT {B B' : Nat} {w : World} {b n sz g gs cap : Nat} {p : Int → Bool} {F : Int → Int} {T : TabD} (h : IsWh B w b n sz p F) (ht : IsTable B' w g gs cap T) : b ≠ g ∧ b ≠ gs := by
  refine ⟨h.ne ht.1, ?_⟩
  obtain ⟨_, _, h2⟩ := ht.2.1
  rcases h2 with ⟨e, _⟩ | ⟨g', cap', cur, e, _, hg', _⟩
  · cases e
  · obtain ⟨e1, _, _⟩ := Value.slice.inj e
    cases e1
    exact h.ne hg'
/-- The table, the map of the law, what both say. -/
structure St22 (w0 w : World) (g gs cap b n sz : Nat) (T : TabD) (p : Int → Bool) (F : Int → Int) : Prop where
  tab : IsTable w0.heap.size w g gs cap T
  wh : IsWh w0.heap.size w b n sz p F
  bel : Below w0.heap.size w0 w
theorem St22.below {w0 w w' : World} {g gs cap b n sz : Nat} {T : TabD} {p : Int → Bool} {F : Int → Int} (h : St22 w0 w g gs cap b n sz T p F) (k : Below w.heap.size w w') : St22 w0 w' g gs cap b n sz T p F :=
  ⟨h.tab.below k, h.wh.below k, below_next h.bel k⟩
theorem St22.told {w0 w w' : World} {g gs gs' cap cap' b n sz : Nat} {T T' : TabD} {p : Int → Bool} {F : Int → Int} (h : St22 w0 w g gs cap b n sz T p F) (t : IsTable w0.heap.size w' g gs' cap' T') (k : TKeeps g gs w w') : St22 w0 w' g gs' cap' b n sz T' p F :=
  ⟨t, h.wh.keptT k (h.wh.neT h.tab).1 (h.wh.neT h.tab).2, k.belowT (w0s := 0) h.tab h.bel (Nat.le_refl _)⟩
theorem St22.mapped {w0 w w' : World} {g gs cap b n sz n' sz' : Nat} {T : TabD} {p p' : Int → Bool} {F F' : Int → Int} (h : St22 w0 w g gs cap b n sz T p F) (t : IsWh w0.heap.size w' b n' sz' p' F') (k : w.grownBy w' (some b)) : St22 w0 w' g gs cap b n' sz' T p' F' :=
  ⟨h.tab.keptO k (h.wh.neT h.tab).1 (h.wh.neT h.tab).2, t, h.bel.grown k h.bel.size (by intro j hj; obtain rfl := Option.some.inj hj; exact h.wh.1)⟩
theorem St22.same {w0 w : World} {g gs cap b n sz n' sz' : Nat} {T : TabD} {p p' : Int → Bool} {F F' : Int → Int} (h : St22 w0 w g gs cap b n sz T p F) (hn : n ≤ n') (hs : sz = sz') (hp : ∀ k, I64 k → p k = p' k) (hF : ∀ k, I64 k → F k = F' k) : St22 w0 w g gs cap b n' sz' T p' F' := ⟨h.tab, h.wh.same hn hs hp hF, h.bel⟩
theorem nap_of (x : Int) : 0 ≤ max 0 (min x 1048576) ∧ max 0 (min x 1048576) ≤ 1048576 := by omega
theorem ReadsV.keptM22 {B : Nat} {w w' : World} {a : Option Addr} {len b n sz : Nat} {p : Int → Bool} {F : Int → Int} {l : List Value} (h : ReadsV w a len l) (hw : IsWh B w b n sz p F) (hg : w.grownBy w' (some b)) : ReadsV w' a len l := by
  obtain ⟨h1, rfl | ⟨q, off, rfl, hq, hc⟩⟩ := h
  · exact ⟨h1, .inl rfl⟩
  · refine ⟨h1, .inr ⟨q, off, rfl, Nat.lt_of_lt_of_le hq hg.size, fun i u hi => ?_⟩⟩
    have hcell := hc i u hi
    have hne : some q ≠ some b := by
      intro e
      obtain rfl := Option.some.inj e
      obtain ⟨_, D, ⟨es, cl, hb, _⟩, _⟩ := hw
      unfold World.cell? at hcell
      rw [hb] at hcell
      cases hcell
    unfold World.cell? at hcell ⊢
    rw [hg.block q hq hne]
    exact hcell
theorem take_more {D : List Int} {j : Nat} {d : Int} (h : D[j]? = some d) (k : Int) : k ∈ D.take (j + 1) ↔ k ∈ D.take j ∨ k = d := by
  rw [List.take_add_one, h]; simp
theorem cut_p {D : List Int} {j : Nat} {d : Int} (h : D[j]? = some d) (p : Int → Bool) (k : Int) : ((p k && !decide (k ∈ D.take j)) && !decide (k = d)) = (p k && !decide (k ∈ D.take (j + 1))) := by
  by_cases h1 : k ∈ D.take j
  · rw [decide_eq_true h1, decide_eq_true ((take_more h k).2 (.inl h1))]; simp
  · by_cases h2 : k = d
    · rw [decide_eq_true h2, decide_eq_true ((take_more h k).2 (.inr h2))]; simp
    · rw [decide_eq_false h1, decide_eq_false h2, decide_eq_false (fun e => ((take_more h k).1 e).elim h1 h2)]; simp
theorem cut_F {D : List Int} {j : Nat} {d : Int} (h : D[j]? = some d) (F : Int → Int) (k : Int) : (if k = d then 0 else (if k ∈ D.take j then 0 else F k)) = (if k ∈ D.take (j + 1) then 0 else F k) := by
  by_cases h1 : k ∈ D.take j
  · rw [if_pos h1, if_pos ((take_more h k).2 (.inl h1))]; split <;> rfl
  · by_cases h2 : k = d
    · rw [if_pos h2, if_pos ((take_more h k).2 (.inr h2))]
    · rw [if_neg h1, if_neg h2, if_neg (fun e => ((take_more h k).1 e).elim h1 h2)]
theorem rise_at {D : List Int} (h : D.Pairwise (· < ·)) {i j : Nat} {x y : Int} (hi : D[i]? = some x) (hj : D[j]? = some y) (hij : i < j) : x < y := by
  obtain ⟨h1, rfl⟩ := List.getElem?_eq_some_iff.1 hi
  obtain ⟨h2, rfl⟩ := List.getElem?_eq_some_iff.1 hj
  exact List.pairwise_iff_getElem.1 h i j h1 h2 hij
theorem not_yet {D : List Int} (h : D.Pairwise (· < ·)) {j : Nat} {y : Int} (hj : D[j]? = some y) : y ∉ D.take j := by
  intro e
  obtain ⟨i, hi⟩ := List.getElem?_of_mem e
  rw [List.getElem?_take] at hi
  by_cases hij : i < j
  · rw [if_pos hij] at hi
    have := rise_at h hi hj hij
    omega
  · rw [if_neg hij] at hi
    cases hi
theorem intsV_at {D : List Int} {j : Nat} {d : Int} (h : D[j]? = some d) : (intsV D)[j]? = some (.int .i64 d) := by unfold intsV; rw [List.getElem?_map, h]; rfl
end Go.Proofs.Ythainmbapikjiaa
