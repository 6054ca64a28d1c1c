/- pick.Places at the structs of the tables: the places of the rows that are so, rising. slices.IndexFunc at both tables. pick.Places at the slots of the inode map, and at floats; slices.IndexFunc at both tables. -/
import Derived.Test.YtebkkbmplndcpaaRowsOf
import Derived.Shelf.Abstract
import Derived.BigQuiet
import Derived.Deep.QuietTactic
namespace Go.Proofs.Ytebkkbmplndcpaa
open Go.RowKit Go.Sort
set_option linter.unusedVariables false
set_option linter.unusedSimpArgs false
set_option maxRecDepth 100000

/-- What is asked of a function value: it answers by what it is given alone, and keeps what was there. -/
def PredV {α : Type} (g : Nat) (lb : Array Value) (enc : α → Value) (S : α → Prop) (p : α → Bool) (w : World) : Prop :=
  ∀ (W : World) (x : α), S x → Below w.heap.size w W → Calls Try.prog g (#[enc x] ++ lb) W fun e w' => e = .returned (.bool (p x)) ∧ Below W.heap.size W w'
theorem PredV.below {α : Type} {g : Nat} {lb : Array Value} {enc : α → Value} {S : α → Prop} {p : α → Bool} {w w' : World} (h : PredV g lb enc S p w) (b : Below w.heap.size w w') : PredV g lb enc S p w' := fun W x hS hB => h W x hS (b.trans (hB.mono b.size))
/-- The places, ahead of k, of those that are so. -/
def placesL {α : Type} (p : α → Bool) (l : List α) (k : Nat) : List Nat := (List.range k).filter fun i => match l[i]? with | some x => p x | none => false
theorem placesL_succ {α : Type} {p : α → Bool} {l : List α} {k : Nat} {x : α} (h : l[k]? = some x) : placesL p l (k + 1) = placesL p l k ++ if p x then [k] else [] := by
  unfold placesL
  rw [List.range_succ, List.filter_append, List.filter_cons, List.filter_nil, h]
theorem placesL_yes {α : Type} {p : α → Bool} {l : List α} {k : Nat} {x : α} (h : l[k]? = some x) (hp : p x = true) : placesL p l (k + 1) = placesL p l k ++ [k] := by rw [placesL_succ h, if_pos hp]
theorem placesL_no {α : Type} {p : α → Bool} {l : List α} {k : Nat} {x : α} (h : l[k]? = some x) (hp : p x = false) : placesL p l (k + 1) = placesL p l k := by rw [placesL_succ h, if_neg (by rw [hp]; exact Bool.false_ne_true), List.append_nil]
def natV (l : List Nat) : List Value := l.map fun (i : Nat) => .int .i64 (i : Int)
theorem natV_one (l : List Nat) : OneCells (natV l) := by
  intro u hu
  unfold natV at hu
  rw [List.mem_map] at hu
  obtain ⟨x, _, rfl⟩ := hu
  rfl
theorem natV_append (l m : List Nat) : natV (l ++ m) = natV l ++ natV m := by unfold natV; rw [List.map_append]
theorem natV_length (l : List Nat) : (natV l).length = l.length := by unfold natV; rw [List.length_map]
theorem info_int : (Try.prog.info? 3).map (fun i => (i.zero, i.size, i.bytes)) = some (some (.int .i64 0), 1, 8) := by kernel_rfl
theorem placesL_length {α : Type} (p : α → Bool) (l : List α) (k : Nat) : (placesL p l k).length ≤ k := by
  have := List.length_filter_le (fun i => match l[i]? with | some x => p x | none => false) (List.range k)
  rw [List.length_range] at this
  exact this
def PlacesPost {α : Type} (w : World) (p : α → Bool) (l : List α) (e : Ending) (w' : World) : Prop :=
  ∃ v, e = .returned v ∧ OwnsV w.heap.size w' 3 v (natV (placesL p l l.length)) ∧ Below w.heap.size w w'

/-- A segment's row of the usage table. -/
structure UseD where
  live : Int
  state : Int
  age : Int
deriving DecidableEq
def useV (u : UseD) : List Value := [.int .i64 u.live, .int .i64 u.state, .int .u32 u.age]
def usesV (l : List UseD) : List (List Value) := l.map useV
theorem usesV_length (l : List UseD) : (usesV l).length = l.length := by unfold usesV; rw [List.length_map]
theorem usesV_get {l : List UseD} {i : Nat} {u : UseD} (h : l[i]? = some u) : (usesV l)[i]? = some (useV u) := by unfold usesV; rw [List.getElem?_map, h]; rfl
/-- An inode's slot of the inode map. -/
structure SlotD where
  place : Int
  version : Int
  links : Int
  kind : Int
deriving DecidableEq
def slotV (u : SlotD) : List Value := [.int .i64 u.place, .int .u32 u.version, .int .i64 u.links, .int .i64 u.kind]
def slotsV (l : List SlotD) : List (List Value) := l.map slotV
theorem slotsV_length (l : List SlotD) : (slotsV l).length = l.length := by unfold slotsV; rw [List.length_map]
theorem slotsV_get {l : List SlotD} {i : Nat} {u : SlotD} (h : l[i]? = some u) : (slotsV l)[i]? = some (slotV u) := by unfold slotsV; rw [List.getElem?_map, h]; rfl

end Go.Proofs.Ytebkkbmplndcpaa

namespace Go.Proofs.Ytebkkbmplndcpaa
open Go.RowKit Go.Sort
set_option linter.unusedVariables false
set_option linter.unusedSimpArgs false
set_option maxRecDepth 100000

/-- The first place of one that is so. -/
def firstI {α : Type} (p : α → Bool) (l : List α) : Int := match placesL p l l.length with | [] => -1 | i :: _ => (i : Int)
theorem placesL_more {α : Type} (p : α → Bool) (l : List α) (m : Nat) : ∀ n, m ≤ n → ∃ r, placesL p l n = placesL p l m ++ r
  | 0, h => by
    obtain rfl : m = 0 := by omega
    exact ⟨[], by simp⟩
  | n + 1, h => by
    by_cases e : m = n + 1
    · subst e; exact ⟨[], by simp⟩
    · obtain ⟨r, hr⟩ := placesL_more p l m n (by omega)
      cases hx : l[n]? with
      | none =>
        refine ⟨r, ?_⟩
        rw [← hr]
        unfold placesL
        rw [List.range_succ, List.filter_append, List.filter_cons, List.filter_nil, hx]
        simp
      | some x =>
        rw [placesL_succ hx, hr]
        exact ⟨r ++ _, by rw [List.append_assoc]⟩
theorem firstI_hit {α : Type} {p : α → Bool} {l : List α} {k : Nat} {u : α} (h : placesL p l k = []) (hu : l[k]? = some u) (hp : p u = true) : firstI p l = (k : Int) := by
  have h1 := placesL_yes hu hp
  rw [h] at h1
  obtain ⟨r, hr⟩ := placesL_more p l (k + 1) l.length (List.getElem?_eq_some_iff.1 hu).1
  unfold firstI
  rw [hr, h1]
  rfl
end Go.Proofs.Ytebkkbmplndcpaa

namespace Go.Proofs.Ytebkkbmplndcpaa
open Go.RowKit Go.Sort
set_option linter.unusedVariables false
set_option linter.unusedSimpArgs false
set_option maxRecDepth 100000

end Go.Proofs.Ytebkkbmplndcpaa
