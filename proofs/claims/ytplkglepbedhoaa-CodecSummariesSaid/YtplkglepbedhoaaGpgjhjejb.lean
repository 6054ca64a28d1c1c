/- The document's fields: in how many bytes a number stands, and the number. -/
import Derived.Test.YtplkglepbedhoaaGnblkokme
import Derived.Test.YtplkglepbedhoaaGppkmgdgg
import Derived.Test.YtplkglepbedhoaaGfjcfdbhh
namespace Go.Proofs.Ytplkglepbedhoaa
open Go.RowKit Go.Sort
set_option linter.unusedVariables false
set_option linter.unusedSimpArgs false
set_option maxRecDepth 100000

def fieldsP (l : List FldD) : List (Nat × Int) := l.map fun x => (x.width, x.z)
def fieldV (x : Nat × Int) : List Value := [.int .i64 (x.1 : Int), .int .i64 x.2]
def FldOk (x : FldD) : Prop := 1 ≤ x.width ∧ x.width ≤ 4 ∧ I64 x.z
theorem fieldsP_append (l m : List FldD) : fieldsP (l ++ m) = fieldsP l ++ fieldsP m := by unfold fieldsP; rw [List.map_append]
theorem fieldsP_length (l : List FldD) : (fieldsP l).length = l.length := by unfold fieldsP; rw [List.length_map]
theorem info_field : (Try.prog.info? 290).map (fun i => (i.zero, i.size, i.bytes)) = some (some (.agg #[.int .i64 0, .int .i64 0]), 2, 16) := by kernel_rfl
theorem okF_iff {x : FldD} (h : FldOk x) : okF (x.width, x.z) ↔ u64of x.z < 256 ^ x.width := by
  obtain ⟨h1, h2, h3⟩ := h
  unfold okF u64of
  unfold I64 at h3
  dsimp only
  have hp : 256 ^ x.width ≤ 4294967296 := Nat.le_trans (Nat.pow_le_pow_right (by omega) h2) (by decide)
  generalize 256 ^ x.width = p at *
  constructor
  · rintro ⟨a, b⟩
    omega
  · intro a
    by_cases hz : 0 ≤ x.z
    · exact ⟨hz, by omega⟩
    · omega
theorem okFs_iff {l : List FldD} (h : ∀ x ∈ l, FldOk x) : okFs (fieldsP l) ↔ roomU l := by
  unfold okFs roomU fieldsP
  constructor
  · intro k x hx
    exact (okF_iff (h x hx)).1 (k _ (List.mem_map.2 ⟨x, hx, rfl⟩))
  · intro k y hy
    obtain ⟨x, hx, rfl⟩ := List.mem_map.1 hy
    exact (okF_iff (h x hx)).2 (k x hx)
theorem lowsF_is : ∀ {l : List FldD}, (∀ x ∈ l, FldOk x) → roomU l → lowsF (fieldsP l) = lowsU l
  | [], _, _ => rfl
  | x :: l, h, hr => by
    have ih := lowsF_is (l := l) (fun y hy => h y (by simp [hy])) (fun y hy => hr y (by simp [hy]))
    have this := (okF_iff (h x (by simp))).2 (hr x (by simp))
    have e : u64of x.z = x.z.toNat := by
      have h0 : 0 ≤ x.z := this.1
      have h3 := (h x (by simp)).2.2
      unfold I64 at h3
      unfold u64of
      omega
    show low x.z.toNat x.width ++ lowsF (fieldsP l) = low (u64of x.z) x.width ++ lowsU l
    rw [ih, e]
theorem lowsF_len (l : List FldD) : (lowsF (fieldsP l)).length = widths l := by
  induction l with
  | nil => rfl
  | cons x l ih =>
    show (low x.z.toNat x.width ++ lowsF (fieldsP l)).length = x.width + widths l
    rw [List.length_append, low_length, ih]
theorem fieldsP_ok {l : List FldD} (h : ∀ x ∈ l, FldOk x) : ∀ x ∈ fieldsP l, 1 ≤ x.1 ∧ x.1 ≤ 8 ∧ I64 x.2 := by
  intro y hy
  obtain ⟨x, hx, rfl⟩ := List.mem_map.1 hy
  obtain ⟨h1, h2, h3⟩ := h x hx
  exact ⟨h1, by dsimp only; omega, h3⟩
theorem fieldV_len (l : List (Nat × Int)) : ∀ p ∈ l.map fieldV, p.length = 2 := by
  intro p hp
  obtain ⟨x, _, rfl⟩ := List.mem_map.1 hp
  rfl
theorem readsF_of {w : World} {a : Option Addr} {l : List (Nat × Int)} (h : ReadsR w a 2 (l.map fieldV)) : ReadsF w a l.length l := by
  refine ⟨rfl, ?_⟩
  by_cases hl : l = []
  · exact .inl hl
  · obtain ⟨_, h2 | ⟨b, off, e, hb, hc⟩⟩ := h
    · exact absurd (List.map_eq_nil_iff.1 h2) hl
    · refine .inr ⟨b, off, e, hb, fun i q z hi => ?_⟩
      have hg : (l.map fieldV)[i]? = some [.int .i64 (q : Int), .int .i64 z] := by rw [List.getElem?_map, hi]; rfl
      have g0 := flatR_get (fieldV_len l) hg (show 0 < 2 by decide)
      have g1 := flatR_get (fieldV_len l) hg (show 1 < 2 by decide)
      have c0 := hc _ _ (g0.trans rfl)
      have c1 := hc _ _ (g1.trans rfl)
      exact ⟨c0, by rw [← Nat.add_assoc] at c1; exact c1⟩
/-- Rows of a literal just laid. -/
theorem readsR_new {k : Nat} (w : World) (t : TypeId) {l : List (List Value)} {cs : Array Value} (hl : ∀ p ∈ l, p.length = k) (hcs : cs.toList = flatR l) : ReadsR (w.alloc (.cells cs t)) (some ⟨w.heap.size, 0, none⟩) k l := by
  refine ⟨hl, .inr ⟨w.heap.size, 0, rfl, by simp, fun i u hi => ?_⟩⟩
  rw [Nat.zero_add, cell_of_row (heap_alloc_new w _)]
  rw [← hcs] at hi
  simpa using hi
theorem fieldV_one (l : List (Int × Int)) : OneRows (l.map fun x => [Value.int .i64 x.1, Value.int .i64 x.2]) := by
  intro p hp u hu
  obtain ⟨x, _, rfl⟩ := List.mem_map.1 hp
  simp only [List.mem_cons, List.not_mem_nil, or_false] at hu
  rcases hu with rfl | rfl <;> rfl
end Go.Proofs.Ytplkglepbedhoaa
