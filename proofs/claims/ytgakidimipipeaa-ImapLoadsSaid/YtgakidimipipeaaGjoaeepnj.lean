/- The document's Opened: the numbers of a sealed sector, of these widths again and again. -/
import Derived.Test.YtgakidimipipeaaGaefblgki
import Derived.Test.YtgakidimipipeaaGhnkogdgp
import Derived.Test.YtgakidimipipeaaOpenI
namespace Go.Proofs.Ytgakidimipipeaa
open Go.RowKit Go.Sort
set_option linter.unusedVariables false
set_option linter.unusedSimpArgs false
set_option maxRecDepth 100000

def numsV (l : List Int) : List Value := l.map fun z => .int .i64 z
theorem numsV_one (l : List Int) : OneCells (numsV l) := by
  intro u hu
  obtain ⟨x, _, rfl⟩ := List.mem_map.1 hu
  rfl
theorem numsV_append (l m : List Int) : numsV (l ++ m) = numsV l ++ numsV m := by unfold numsV; rw [List.map_append]
theorem numsV_length (l : List Int) : (numsV l).length = l.length := by unfold numsV; rw [List.length_map]
theorem numsV_get {l : List Int} {i : Nat} {x : Int} (h : l[i]? = some x) : (numsV l)[i]? = some (.int .i64 x) := by unfold numsV; rw [List.getElem?_map, h]; rfl
def zsOf (l : List FldD) : List Int := l.map (·.z)
theorem zsOf_append (l m : List FldD) : zsOf (l ++ m) = zsOf l ++ zsOf m := by unfold zsOf; rw [List.map_append]
theorem zsOf_length (l : List FldD) : (zsOf l).length = l.length := by unfold zsOf; rw [List.length_map]
theorem stO_at : ∀ (l : List FldD) (b : List Nat) (i : Nat) (x : FldD), l[i]? = some x → widths (l.take i) + x.width ≤ b.length → (stO (.rd b) l)[i]? = some ⟨x.kind, x.width, ((le ((b.drop (widths (l.take i))).take x.width) : Nat) : Int)⟩
  | [], b, i, x, h, _ => by simp at h
  | y :: l, b, 0, x, h, hl => by
    simp only [List.getElem?_cons_zero, Option.some.injEq] at h
    subst h
    have hl' : 0 + y.width ≤ b.length := hl
    rw [stO_rd_cons (by omega)]
    show some _ = some _
    have e : widths ((y :: l).take 0) = 0 := rfl
    rw [e, List.drop_zero]
  | y :: l, b, i + 1, x, h, hl => by
    have hl' : y.width + widths (l.take i) + x.width ≤ b.length := hl
    rw [stO_rd_cons (by omega), List.getElem?_cons_succ, stO_at l (b.drop y.width) i x (by simpa using h) (by simp; omega), List.drop_drop]
    rfl
theorem runS_whole (z : List FldD) (hw : ∀ x ∈ z, x.width ≤ 8) {b : List Nat} (hb : Bytes b) : ∀ m, m * widths z ≤ b.length → runS z [] (.rd b) m = .rd (b.drop (m * widths z))
  | 0, _ => by show PS.rd b = _; rw [Nat.zero_mul, List.drop_zero]
  | m + 1, h => by
    rw [Nat.succ_mul] at h
    show stS (runS z [] (.rd b) m) (itemAt z [] m) = _
    rw [runS_whole z hw hb m (by omega), itemAt_nil, (rd_whole z (b.drop (m * widths z)) (hb.drop _) hw (by simp; omega)).1, List.drop_drop, Nat.succ_mul]
/-- What the document reads: numbers, if there are just so many whole rounds of them. -/
def openedOk (k : Nat) (z : List FldD) (s : List Nat) : Bool := openB s && decide (kindL s = k) && decide ((bodyL s).length % widths z = 0)
def openedL (k : Nat) (z : List FldD) (s : List Nat) : List Int := if openedOk k z s = true then zsOf (itemsR z (bodyL s)).flatten else []
theorem stO_pos {z : List FldD} (hw : ∀ x ∈ z, x.width ≤ 4) {b : List Nat} (hb : Bytes b) : ∀ x ∈ stO (.rd b) z, 0 ≤ x.z ∧ x.z < 4294967296 := by
  intro x hx
  obtain ⟨m, hm, rfl⟩ := List.mem_iff_getElem.1 hx
  have hm' : m < z.length := by rw [stO_length] at hm; exact hm
  obtain ⟨v, h1, h2⟩ := stO_rd z b hb hw m z[m] (List.getElem?_eq_getElem hm')
  rw [List.getElem?_eq_getElem hm] at h1
  rw [Option.some.inj h1]
  exact h2
theorem info_i64 : (Try.prog.info? 2).map (fun i => (i.zero, i.size, i.bytes)) = some (some (.int .i64 0), 1, 8) := by kernel_rfl
theorem widths_take_snoc {z : List FldD} {i : Nat} {x : FldD} (h : z[i]? = some x) : widths (z.take (i + 1)) = widths (z.take i) + x.width := by
  rw [List.take_add_one, h, widths_append]
  rfl
def OpenedPost (w : World) (k : Nat) (z : List FldD) (s : List Nat) (e : Ending) (w' : World) : Prop := Below w.heap.size w w' ∧ ∃ v, e = .returned (.tuple #[v, .bool (openedOk k z s)]) ∧ OwnsV w.heap.size w' 2 v (numsV (openedL k z s))
end Go.Proofs.Ytgakidimipipeaa
