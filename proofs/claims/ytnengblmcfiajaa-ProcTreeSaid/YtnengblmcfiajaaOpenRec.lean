/- Slices of structs that came in, opened: rows of N cells, whatever they are. -/
import Derived.Test.YtnengblmcfiajaaRowsOf
import Derived.Test.YtnengblmcfiajaaOpen
import Derived.Deep.Slices
namespace Go.Proofs.Ytnengblmcfiajaa
open Go.ChangeShapes Go.WideShapes Go.RowKit Go.Deep
set_option linter.unusedVariables false
set_option maxRecDepth 100000

theorem addr_plus (b o j : Nat) : (⟨b, o, none⟩ : Addr).add j = ⟨b, o + j, none⟩ := by unfold Addr.add; split <;> simp_all
theorem u32_of_wf' {n : Int} (h : (Lit.int .u32 n).wf = true) : 0 ≤ n ∧ n < 4294967296 := by
  simp [Lit.wf, IntKind.min, IntKind.max, IntKind.signed, IntKind.bits] at h
  exact ⟨by omega, by omega⟩
def rowsOf {α : Type} (V : α → List Value) (l : List α) : List (List Value) := l.map V
theorem rowsOf_length {α : Type} (V : α → List Value) (l : List α) : (rowsOf V l).length = l.length := by unfold rowsOf; rw [List.length_map]
theorem rowsOf_get {α : Type} {V : α → List Value} {l : List α} {i : Nat} {u : α} (h : l[i]? = some u) : (rowsOf V l)[i]? = some (V u) := by unfold rowsOf; rw [List.getElem?_map, h]; rfl
theorem rowsOf_rows {α : Type} {V : α → List Value} {N : Nat} (hV : ∀ x, (V x).length = N) (l : List α) : ∀ p ∈ rowsOf V l, p.length = N := by
  intro p hp
  unfold rowsOf at hp
  rw [List.mem_map] at hp
  obtain ⟨u, _, rfl⟩ := hp
  exact hV u
theorem open_rows {H : Type} {enc : TypeId × Value → H} {W : World} {base : Nat} {v : Value} {d : DataW H} {pl : List MemPlace} {α : Type} (V : α → List Value) (F : α → Prop) (dflt : α) (N : Nat) (hN : 0 < N) (hV : ∀ x, (V x).length = N) {t e : TypeId}
    (ht : Try.prog.underlying t = some (.slice e)) (hcells : Try.prog.cellsOf e = N)
    (helem : ∀ {m b o : Nat} {cs : List Value} {y : DataW H × List MemPlace}, cs.length = N → DataW.trod enc Try.prog W 0 (fun _ => true) true m e cs = some y → ∃ u, F u ∧ V u = cs)
    (hok : Value.okWide Try.prog W .any base t v) (h : DataW.Trod enc Try.prog W 0 (fun _ => true) true t v d pl) :
    ∃ a cap, ∃ us : List α, v = .slice a us.length cap ∧ ReadsR W a N (rowsOf V us) ∧ us.length ≤ cap ∧ ∀ u ∈ us, F u := by
  obtain ⟨a0, len0, cap0, rfl⟩ := okWide_slice ht hok
  obtain ⟨fuel, hf⟩ := h
  rcases open_slice ht hf with ⟨hcs, _⟩ | ⟨x, len, cap, m, n, D, Pl, hcs, _, hl, hm, hmm, _, hi⟩
  · simp [Value.cells] at hcs
    obtain ⟨rfl, rfl, rfl⟩ := hcs
    exact ⟨none, 0, [], rfl, ReadsR.nil _ _ _, Nat.le_refl _, by simp⟩
  · simp [Value.cells] at hcs
    obtain ⟨rfl, rfl, rfl⟩ := hcs
    simp only [if_true] at hmm
    subst hmm
    by_cases h0 : len0 = 0
    · subst h0
      exact ⟨some x, m, [], rfl, ReadsR.nil _ _ _, Nat.zero_le _, by simp⟩
    · obtain ⟨b, off, spot⟩ := x
      rw [hcells] at hi
      obtain ⟨cs0, hc0, _⟩ := hi 0 (by omega)
      have hs0 := (World.cells?_some hc0).2.2 0 hN
      have hl0 := (World.cells?_some hc0).2.1
      rw [List.getElem?_eq_getElem (by omega)] at hs0
      have hspot : spot = none := by simpa [Addr.add] using World.cell?_spot hs0
      subst hspot
      have hbl : b < W.heap.size := by
        have := World.block_lt_of_cell? _ _ hs0
        rw [addr_plus, addr_plus] at this
        exact this
      have hex : ∀ i, ∃ u, i < len0 → F u ∧ ∀ j x, (V u)[j]? = some x → W.cell? ⟨b, off + i * N + j, none⟩ = some x := fun i => by
        by_cases hil : i < len0
        · obtain ⟨cs, hc, ht⟩ := hi i (by omega)
          obtain ⟨_, hcl, hat⟩ := World.cells?_some hc
          obtain ⟨u, hu, rfl⟩ := helem (b := b) (o := off) hcl ht
          refine ⟨u, fun _ => ⟨hu, fun j x hj => ?_⟩⟩
          have hjN : j < N := by rw [← hV u]; exact (List.getElem?_eq_some_iff.1 hj).1
          have := hat j hjN
          rw [addr_plus, addr_plus] at this
          rw [this]
          exact hj
        · exact ⟨dflt, fun h => absurd h hil⟩
      obtain ⟨f, hf⟩ := Classical.skolem.1 hex
      have hus : ∀ i, i < len0 → ((List.range len0).map f)[i]? = some (f i) := fun i hil => by rw [List.getElem?_map, List.getElem?_range hil]; rfl
      have hlen : ((List.range len0).map f).length = len0 := by simp
      refine ⟨some ⟨b, off, none⟩, m, (List.range len0).map f, by rw [hlen], ⟨rowsOf_rows hV _, .inr ⟨b, off, rfl, hbl, fun i x hx => ?_⟩⟩, by rw [hlen]; exact hl, fun u hu => ?_⟩
      · have hlt := (List.getElem?_eq_some_iff.1 hx).1
        rw [flatR_length (rowsOf_rows hV _), rowsOf_length, hlen] at hlt
        have hd : i = (i / N) * N + i % N := by rw [Nat.mul_comm]; exact (Nat.div_add_mod i N).symm
        have hq : i / N < len0 := Nat.div_lt_of_lt_mul (by rw [Nat.mul_comm]; exact hlt)
        have hm3 : i % N < N := Nat.mod_lt _ hN
        rw [hd, flatR_get (rowsOf_rows hV _) (rowsOf_get (hus _ hq)) hm3] at hx
        have := (hf _ hq).2 _ x hx
        rw [Nat.add_assoc, ← hd] at this
        exact this
      · obtain ⟨j, hj, rfl⟩ := List.mem_map.1 hu
        exact (hf j (List.mem_range.1 hj)).1

/-! ### The inode map's acts -/
structure Act10D where
  kind : Int
  num : Int
  n : Int
  s0 : Int
  s1 : Int
  s2 : Int
  s3 : Int
def act10V (x : Act10D) : List Value := [.int .i64 x.kind, .int .i64 x.num, .int .i64 x.n, .int .i64 x.s0, .int .u32 x.s1, .int .i64 x.s2, .int .i64 x.s3]
def Act10Fits (x : Act10D) : Prop := I64 x.kind ∧ I64 x.num ∧ I64 x.n ∧ I64 x.s0 ∧ (0 ≤ x.s1 ∧ x.s1 < 4294967296) ∧ I64 x.s2 ∧ I64 x.s3
end Go.Proofs.Ytnengblmcfiajaa
