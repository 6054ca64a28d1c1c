/- usage.Rank: any numbers in their order, those that are none behind. -/
import Derived.Test.YtpmfkamagdifgaaPick2
import Derived.Test.YtpmfkamagdifgaaSorted
import Derived.Test.YtpmfkamagdifgaaFloatMath
import Derived.WalkLawsBesides
namespace Go.Proofs.Ytpmfkamagdifgaa
open Go.RowKit Go.Sort
set_option linter.unusedVariables false
set_option linter.unusedSimpArgs false
set_option maxRecDepth 100000

theorem isnan_of (b : Nat) : (FloatKind.f64.format.order b b != some .eq) = nanB b := by
  show (Ieee.double.order b b != some .eq) = nanB b
  cases h : nanB b with
  | true => rw [order_nan b h]; rfl
  | false => rw [order_self b h]; rfl
theorem lss_of (x y : Nat) : (FloatKind.f64.format.order x y == some .lt) = fltB x y := order_lt x y
theorem cell_of_box (w : World) (v : Value) (t : TypeId) : (w.alloc (.cells #[v] t)).cell? ⟨w.heap.size, 0, none⟩ = some v := by
  unfold World.cell?
  rw [heap_alloc_new]
  rfl
def fltsV (l : List Nat) : List Value := l.map fun b => .float .f64 b
theorem fltsV_get {l : List Nat} {i b : Nat} (h : l[i]? = some b) : (fltsV l)[i]? = some (.float .f64 b) := by unfold fltsV; rw [List.getElem?_map, h]; rfl
theorem fltsV_one (l : List Nat) : OneCells (fltsV l) := by
  intro u hu
  unfold fltsV at hu
  rw [List.mem_map] at hu
  obtain ⟨x, _, rfl⟩ := hu
  rfl
def ltF (l : List Nat) (i j : Nat) : Bool := match l[i]?, l[j]? with
  | some x, some y => lessB x y
  | _, _ => false
def rankL (l : List Nat) : List Nat := sortL (ltF l) (List.range l.length)
theorem places_all (l : List Nat) : ∀ k, k ≤ l.length → placesL (fun _ => true) l k = List.range k
  | 0, _ => rfl
  | k + 1, h => by rw [placesL_yes (x := l[k]) (List.getElem?_eq_getElem (by omega)) rfl, places_all l k (by omega), List.range_succ]
def RankPost (w : World) (l : List Nat) (e : Ending) (w' : World) : Prop := ∃ a c, e = .returned (.slice a l.length c) ∧ ReadsV w' a l.length (natV l) ∧ l.length ≤ c ∧ Below w.heap.size w w'
end Go.Proofs.Ytpmfkamagdifgaa
