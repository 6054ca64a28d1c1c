/- pick.Places at the structs of the tables: the places of the rows that are so, rising. slices.IndexFunc at both tables. pick.Places at the slots of the inode map, and at floats; slices.IndexFunc at both tables. -/
import Derived.Test.YtgakidimipipeaaRowsOf
import Derived.Shelf.Abstract
import Derived.BigQuiet
import Derived.Deep.QuietTactic
namespace Go.Proofs.Ytgakidimipipeaa
open Go.RowKit Go.Sort
set_option linter.unusedVariables false
set_option linter.unusedSimpArgs false
set_option maxRecDepth 100000

/-- What is asked of a function value: it answers by what it is given alone, and keeps what was there. -/
def PredV {α : Type} (g : Nat) (lb : Array Value) (enc : α → Value) (S : α → Prop) (p : α → Bool) (w : World) : Prop :=
  ∀ (W : World) (x : α), S x → Below w.heap.size w W → Calls Try.prog g (#[enc x] ++ lb) W fun e w' => e = .returned (.bool (p x)) ∧ Below W.heap.size W w'
theorem PredV.below {α : Type} {g : Nat} {lb : Array Value} {enc : α → Value} {S : α → Prop} {p : α → Bool} {w w' : World} (h : PredV g lb enc S p w) (b : Below w.heap.size w w') : PredV g lb enc S p w' := fun W x hS hB => h W x hS (b.trans (hB.mono b.size))
/-- The places, ahead of k, of those that are so. -/
def placesL {α : Type} (p : α → Bool) (l : List α) (k : Nat) : List Nat := (List.range k).filter fun i => match l[i]? with | some x => p x | none => false
theorem placesL_succ {α : Type} {p : α → Bool} {l : List α} {k : Nat} {x : α} (h : l[k]? = some x) : placesL p l (k + 1) = placesL p l k ++ if p x then [k] else [] := by
  unfold placesL
  rw [List.range_succ, List.filter_append, List.filter_cons, List.filter_nil, h]
theorem placesL_yes {α : Type} {p : α → Bool} {l : List α} {k : Nat} {x : α} (h : l[k]? = some x) (hp : p x = true) : placesL p l (k + 1) = placesL p l k ++ [k] := by rw [placesL_succ h, if_pos hp]
theorem placesL_no {α : Type} {p : α → Bool} {l : List α} {k : Nat} {x : α} (h : l[k]? = some x) (hp : p x = false) : placesL p l (k + 1) = placesL p l k := by rw [placesL_succ h, if_neg (by rw [hp]; exact Bool.false_ne_true), List.append_nil]
def natV (l : List Nat) : List Value := l.map fun (i : Nat) => .int .i64 (i : Int)
theorem natV_one (l : List Nat) : OneCells (natV l) := by
  intro u hu
  unfold natV at hu
  rw [List.mem_map] at hu
  obtain ⟨x, _, rfl⟩ := hu
  rfl
theorem natV_append (l m : List Nat) : natV (l ++ m) = natV l ++ natV m := by unfold natV; rw [List.map_append]
theorem natV_length (l : List Nat) : (natV l).length = l.length := by unfold natV; rw [List.length_map]
theorem info_int : (Try.prog.info? 3).map (fun i => (i.zero, i.size, i.bytes)) = some (some (.int .i64 0), 1, 8) := by kernel_rfl
theorem placesL_length {α : Type} (p : α → Bool) (l : List α) (k : Nat) : (placesL p l k).length ≤ k := by
  have := List.length_filter_le (fun i => match l[i]? with | some x => p x | none => false) (List.range k)
  rw [List.length_range] at this
  exact this
def PlacesPost {α : Type} (w : World) (p : α → Bool) (l : List α) (e : Ending) (w' : World) : Prop :=
  ∃ v, e = .returned v ∧ OwnsV w.heap.size w' 3 v (natV (placesL p l l.length)) ∧ Below w.heap.size w w'

/-- A segment's row of the usage table. -/
structure UseD where
  live : Int
  state : Int
  age : Int
deriving DecidableEq
def useV (u : UseD) : List Value := [.int .i64 u.live, .int .i64 u.state, .int .u32 u.age]
def usesV (l : List UseD) : List (List Value) := l.map useV
theorem usesV_length (l : List UseD) : (usesV l).length = l.length := by unfold usesV; rw [List.length_map]
theorem usesV_get {l : List UseD} {i : Nat} {u : UseD} (h : l[i]? = some u) : (usesV l)[i]? = some (useV u) := by unfold usesV; rw [List.getElem?_map, h]; rfl
/-- An inode's slot of the inode map. -/
structure SlotD where
  place : Int
  version : Int
  links : Int
  kind : Int
deriving DecidableEq
def slotV (u : SlotD) : List Value := [.int .i64 u.place, .int .u32 u.version, .int .i64 u.links, .int .i64 u.kind]
def slotsV (l : List SlotD) : List (List Value) := l.map slotV
theorem slotsV_length (l : List SlotD) : (slotsV l).length = l.length := by unfold slotsV; rw [List.length_map]
theorem slotsV_get {l : List SlotD} {i : Nat} {u : SlotD} (h : l[i]? = some u) : (slotsV l)[i]? = some (slotV u) := by unfold slotsV; rw [List.getElem?_map, h]; rfl

set_option maxHeartbeats 1600000 in
theorem places_use (l : List UseD) (a : Option Addr) (cap : Nat) (w : World) (hr : ReadsR w a 3 (usesV l)) (hn : l.length ≤ 100000) (S : UseD → Prop) (hS : ∀ r ∈ l, S r) (p : UseD → Bool)
    (g : Nat) (lb : Array Value) (eg : ∀ args w, (callFunc g args).run Try.prog w = .ok (.enter g args) w) (hp : PredV g lb (fun u => .agg (useV u).toArray) S p w) :
    Calls Try.prog 66 #[.slice a l.length cap, .func (.func g) #[] lb] w (PlacesPost w p l) := by
  have HR := Lib.hid hr
  have HS := Lib.hid hS
  have HP := Lib.hid hp
  clear hr hS hp
  obtain ⟨n, hnn⟩ : ∃ n, l.length = n := ⟨_, rfl⟩
  have HE : Hid (PlacesPost w p l = fun e w' => ∃ v, e = .returned v ∧ OwnsV w.heap.size w' 3 v (natV (placesL p l n)) ∧ Below w.heap.size w w') := by show _ = _; rw [← hnn]; rfl
  rw [hnn] at hn ⊢
  have HN := Lib.hid hnn
  clear hnn
  go_enter Try.func66, Try.ntmps66
  go_wp2
  go_loopw [5, 10] (fun v i wr => ∃ k : Nat, k ≤ n ∧ i = .int .i64 k ∧ Hid (OwnsV w.heap.size wr 3 v (natV (placesL p l k))) ∧ Hid (Below w.heap.size w wr)) (fun _ i _ => n - (intOf i).toNat)
  case atStart => exact ⟨0, Nat.zero_le _, rfl, OwnsV.nil _ _ _, Below.refl _ _⟩
  case round =>
    obtain ⟨k, hk, rfl, HO, HB⟩ := hrel
    by_cases hlt : k < n
    · obtain ⟨u, hrow⟩ : ∃ r, l[k]? = some r := ⟨_, List.getElem?_eq_getElem (by rw [HN.out]; exact hlt)⟩
      have HRS := Lib.hid (HS.out u (List.mem_of_getElem? hrow))
      have HROW := Lib.hid hrow
      obtain ⟨b, off, rfl, hb, hc⟩ := (HR.out.below HB.out).row (usesV_get hrow)
      have c0 : wr.cell? ⟨b, off + k * 3, none⟩ = some (.int .i64 u.live) := hc 0 _ rfl
      have c1 : wr.cell? ⟨b, off + k * 3 + 1, none⟩ = some (.int .i64 u.state) := by have := hc 1 _ rfl; rwa [← Nat.add_assoc] at this
      have c2 : wr.cell? ⟨b, off + k * 3 + 2, none⟩ = some (.int .u32 u.age) := by have := hc 2 _ rfl; rwa [← Nat.add_assoc] at this
      clear hc hrow hb
      have hcall := fun W hW => HP.out W u HRS.out hW
      have hsz := HB.out.size
      obtain ⟨B, hB⟩ : ∃ B, w.heap.size = B := ⟨_, rfl⟩
      rw [hB] at hsz
      have hw1 : B ≤ wr.heap.size + 1 := by omega
      have hlen := placesL_length p l k
      have HLen : Hid ((natV (placesL p l k)).length ≤ 100000) := by show _ ≤ _; rw [natV_length]; omega
      clear hlen hB
      cases hpu : p u with
      | true =>
        simp only [hpu] at hcall
        have HNext : Hid (natV (placesL p l (k + 1)) = natV (placesL p l k) ++ [.int .i64 (k : Int)]) := by show _ = _; rw [placesL_yes HROW.out hpu, natV_append]; rfl
        clear hpu
        go_wp2_with (first | (go_at_fn g; refine (hcall _ (below_next HB.out (below_box _ _))).mono ?_; rintro e w1 ⟨rfl, b1⟩) | (at_builtin; refine wpList_append_vals rfl _ _ 45 rfl w.heap.size 3 (.int .i64 0) 8 Try.underlying45 info_int rfl _ _ rfl (((HO.out.alloc _).below b1).alloc _) _ _ _ rfl _ (ReadsV.lit w1 #[.int .i64 (k : Int)] 3) (by intro y hy; simp at hy; subst hy; rfl) (by have := HLen.out; simp; omega) (by have := HLen.out; unfold maxLen; simp; omega) (by have h1 := b1.size; have h2 := HB.out.size; simp at h1 ⊢; omega) ?_; intro v' w2 ho hg))
        go_roundw
        case rel =>
          refine ⟨k + 1, by omega, by go_num, ?_, ?_⟩
          · show OwnsV _ _ _ _ _
            rw [HNext.out]
            exact ho
          · refine (((HO.out.alloc _).below b1).alloc _).grown ?_ ?_ hg
            · exact (below_next (below_next HB.out (below_box _ _)) b1).alloc (by have h1 := b1.size; have h2 := HB.out.size; simp at h1; omega) _
            · have h1 := b1.size; have h2 := HB.out.size; simp at h1 ⊢; omega
        case measure => simp [intOf]; omega
      | false =>
        simp only [hpu] at hcall
        have HNext : Hid (placesL p l (k + 1) = placesL p l k) := placesL_no HROW.out hpu
        clear hpu
        go_wp2_with (go_at_fn g; refine (hcall _ (below_next HB.out (below_box _ _))).mono ?_; rintro e w1 ⟨rfl, b1⟩)
        go_roundw
        case rel =>
          refine ⟨k + 1, by omega, by go_num, ?_, ?_⟩
          · show OwnsV _ _ _ _ _
            rw [HNext.out]
            exact (HO.out.alloc _).below b1
          · exact below_next (below_next HB.out (below_box _ _)) b1
        case measure => simp [intOf]; omega
    · have hkn : k = n := by omega
      subst hkn
      go_wp2
      go_ret
      rw [HE.out]
      exact ⟨_, rfl, HO.out, HB.out⟩
end Go.Proofs.Ytgakidimipipeaa

namespace Go.Proofs.Ytgakidimipipeaa
open Go.RowKit Go.Sort
set_option linter.unusedVariables false
set_option linter.unusedSimpArgs false
set_option maxRecDepth 100000

/-- The first place of one that is so. -/
def firstI {α : Type} (p : α → Bool) (l : List α) : Int := match placesL p l l.length with | [] => -1 | i :: _ => (i : Int)
theorem placesL_more {α : Type} (p : α → Bool) (l : List α) (m : Nat) : ∀ n, m ≤ n → ∃ r, placesL p l n = placesL p l m ++ r
  | 0, h => by
    obtain rfl : m = 0 := by omega
    exact ⟨[], by simp⟩
  | n + 1, h => by
    by_cases e : m = n + 1
    · subst e; exact ⟨[], by simp⟩
    · obtain ⟨r, hr⟩ := placesL_more p l m n (by omega)
      cases hx : l[n]? with
      | none =>
        refine ⟨r, ?_⟩
        rw [← hr]
        unfold placesL
        rw [List.range_succ, List.filter_append, List.filter_cons, List.filter_nil, hx]
        simp
      | some x =>
        rw [placesL_succ hx, hr]
        exact ⟨r ++ _, by rw [List.append_assoc]⟩
theorem firstI_hit {α : Type} {p : α → Bool} {l : List α} {k : Nat} {u : α} (h : placesL p l k = []) (hu : l[k]? = some u) (hp : p u = true) : firstI p l = (k : Int) := by
  have h1 := placesL_yes hu hp
  rw [h] at h1
  obtain ⟨r, hr⟩ := placesL_more p l (k + 1) l.length (List.getElem?_eq_some_iff.1 hu).1
  unfold firstI
  rw [hr, h1]
  rfl
set_option maxHeartbeats 1600000 in
theorem index_slot (l : List SlotD) (a : Option Addr) (cap : Nat) (w : World) (hr : ReadsR w a 4 (slotsV l)) (hn : l.length ≤ 100000) (S : SlotD → Prop) (hS : ∀ r ∈ l, S r) (p : SlotD → Bool)
    (g : Nat) (lb : Array Value) (eg : ∀ args w, (callFunc g args).run Try.prog w = .ok (.enter g args) w) (hp : PredV g lb (fun u => .agg (slotV u).toArray) S p w) :
    Calls Try.prog 59 #[.slice a l.length cap, .func (.func g) #[] lb] w fun e w' => e = .returned (.int .i64 (firstI p l)) ∧ Below w.heap.size w w' := by
  have HR := Lib.hid hr
  have HS := Lib.hid hS
  have HP := Lib.hid hp
  clear hr hS hp
  obtain ⟨n, hnn⟩ : ∃ n, l.length = n := ⟨_, rfl⟩
  obtain ⟨z, hz⟩ : ∃ z, firstI p l = z := ⟨_, rfl⟩
  rw [hnn] at hn ⊢
  rw [hz]
  have HZ := Lib.hid hz
  have HN := Lib.hid hnn
  clear hnn hz
  go_enter Try.func59, Try.ntmps59
  go_wp2
  go_loopw [8] (fun i wr => ∃ k : Nat, k ≤ n ∧ i = .int .i64 k ∧ Hid (placesL p l k = []) ∧ Hid (Below w.heap.size w wr)) (fun i _ => n - (intOf i).toNat)
  case atStart => exact ⟨0, Nat.zero_le _, rfl, rfl, Below.refl _ _⟩
  case round =>
    obtain ⟨k, hk, rfl, HO, HB⟩ := hrel
    by_cases hlt : k < n
    · obtain ⟨u, hrow⟩ : ∃ r, l[k]? = some r := ⟨_, List.getElem?_eq_getElem (by rw [HN.out]; exact hlt)⟩
      have HRS := Lib.hid (HS.out u (List.mem_of_getElem? hrow))
      have HROW := Lib.hid hrow
      obtain ⟨b, off, rfl, hb, hc⟩ := (HR.out.below HB.out).row (slotsV_get hrow)
      have c0 : wr.cell? ⟨b, off + k * 4, none⟩ = some (.int .i64 u.place) := hc 0 _ rfl
      have c1 : wr.cell? ⟨b, off + k * 4 + 1, none⟩ = some (.int .u32 u.version) := by have := hc 1 _ rfl; rwa [← Nat.add_assoc] at this
      have c2 : wr.cell? ⟨b, off + k * 4 + 2, none⟩ = some (.int .i64 u.links) := by have := hc 2 _ rfl; rwa [← Nat.add_assoc] at this
      have c3 : wr.cell? ⟨b, off + k * 4 + 3, none⟩ = some (.int .i64 u.kind) := by have := hc 3 _ rfl; rwa [← Nat.add_assoc] at this
      clear hc hrow hb
      have hcall := fun W hW => HP.out W u HRS.out hW
      have hx1 : (0 : Int) ≤ (k : Int) := by omega
      have hx2 : (k : Int) < (n : Int) := by omega
      cases hpu : p u with
      | true =>
        simp only [hpu] at hcall
        have HZ2 : Hid (z = k) := by show _ = _; rw [← HZ.out]; exact firstI_hit HO.out HROW.out hpu
        clear hpu
        go_wp2_with (go_at_fn g; refine (hcall _ HB.out).mono ?_; rintro e w1 ⟨rfl, b1⟩)
        go_ret
        exact ⟨ret_int HZ2.out.symm, below_next HB.out b1⟩
      | false =>
        simp only [hpu] at hcall
        have HNext : Hid (placesL p l (k + 1) = []) := (placesL_no HROW.out hpu).trans HO.out
        clear hpu
        go_wp2_with (go_at_fn g; refine (hcall _ HB.out).mono ?_; rintro e w1 ⟨rfl, b1⟩)
        go_roundw
        case rel => exact ⟨k + 1, by omega, by go_num, HNext, below_next HB.out b1⟩
        case measure => simp [intOf]; omega
    · have hkn : k = n := by omega
      subst hkn
      go_wp2
      go_ret
      refine ⟨ret_int ?_, HB.out⟩
      rw [← HZ.out]
      unfold firstI
      rw [HN.out, HO.out]
end Go.Proofs.Ytgakidimipipeaa

namespace Go.Proofs.Ytgakidimipipeaa
open Go.RowKit Go.Sort
set_option linter.unusedVariables false
set_option linter.unusedSimpArgs false
set_option maxRecDepth 100000

set_option maxHeartbeats 1600000 in
theorem places_slot (l : List SlotD) (a : Option Addr) (cap : Nat) (w : World) (hr : ReadsR w a 4 (slotsV l)) (hn : l.length ≤ 100000) (S : SlotD → Prop) (hS : ∀ r ∈ l, S r) (p : SlotD → Bool)
    (g : Nat) (lb : Array Value) (eg : ∀ args w, (callFunc g args).run Try.prog w = .ok (.enter g args) w) (hp : PredV g lb (fun u => .agg (slotV u).toArray) S p w) :
    Calls Try.prog 95 #[.slice a l.length cap, .func (.func g) #[] lb] w (PlacesPost w p l) := by
  have HR := Lib.hid hr
  have HS := Lib.hid hS
  have HP := Lib.hid hp
  clear hr hS hp
  obtain ⟨n, hnn⟩ : ∃ n, l.length = n := ⟨_, rfl⟩
  have HE : Hid (PlacesPost w p l = fun e w' => ∃ v, e = .returned v ∧ OwnsV w.heap.size w' 3 v (natV (placesL p l n)) ∧ Below w.heap.size w w') := by show _ = _; rw [← hnn]; rfl
  rw [hnn] at hn ⊢
  have HN := Lib.hid hnn
  clear hnn
  go_enter Try.func95, Try.ntmps95
  go_wp2
  go_loopw [5, 10] (fun v i wr => ∃ k : Nat, k ≤ n ∧ i = .int .i64 k ∧ Hid (OwnsV w.heap.size wr 3 v (natV (placesL p l k))) ∧ Hid (Below w.heap.size w wr)) (fun _ i _ => n - (intOf i).toNat)
  case atStart => exact ⟨0, Nat.zero_le _, rfl, OwnsV.nil _ _ _, Below.refl _ _⟩
  case round =>
    obtain ⟨k, hk, rfl, HO, HB⟩ := hrel
    by_cases hlt : k < n
    · obtain ⟨u, hrow⟩ : ∃ r, l[k]? = some r := ⟨_, List.getElem?_eq_getElem (by rw [HN.out]; exact hlt)⟩
      have HRS := Lib.hid (HS.out u (List.mem_of_getElem? hrow))
      have HROW := Lib.hid hrow
      obtain ⟨b, off, rfl, hb, hc⟩ := (HR.out.below HB.out).row (slotsV_get hrow)
      have c0 : wr.cell? ⟨b, off + k * 4, none⟩ = some (.int .i64 u.place) := hc 0 _ rfl
      have c1 : wr.cell? ⟨b, off + k * 4 + 1, none⟩ = some (.int .u32 u.version) := by have := hc 1 _ rfl; rwa [← Nat.add_assoc] at this
      have c2 : wr.cell? ⟨b, off + k * 4 + 2, none⟩ = some (.int .i64 u.links) := by have := hc 2 _ rfl; rwa [← Nat.add_assoc] at this
      have c3 : wr.cell? ⟨b, off + k * 4 + 3, none⟩ = some (.int .i64 u.kind) := by have := hc 3 _ rfl; rwa [← Nat.add_assoc] at this
      clear hc hrow hb
      have hcall := fun W hW => HP.out W u HRS.out hW
      have hsz := HB.out.size
      obtain ⟨B, hB⟩ : ∃ B, w.heap.size = B := ⟨_, rfl⟩
      rw [hB] at hsz
      have hw1 : B ≤ wr.heap.size + 1 := by omega
      have hlen := placesL_length p l k
      have HLen : Hid ((natV (placesL p l k)).length ≤ 100000) := by show _ ≤ _; rw [natV_length]; omega
      clear hlen hB
      cases hpu : p u with
      | true =>
        simp only [hpu] at hcall
        have HNext : Hid (natV (placesL p l (k + 1)) = natV (placesL p l k) ++ [.int .i64 (k : Int)]) := by show _ = _; rw [placesL_yes HROW.out hpu, natV_append]; rfl
        clear hpu
        go_wp2_with (first | (go_at_fn g; refine (hcall _ (below_next HB.out (below_box _ _))).mono ?_; rintro e w1 ⟨rfl, b1⟩) | (at_builtin; refine wpList_append_vals rfl _ _ 45 rfl w.heap.size 3 (.int .i64 0) 8 Try.underlying45 info_int rfl _ _ rfl (((HO.out.alloc _).below b1).alloc _) _ _ _ rfl _ (ReadsV.lit w1 #[.int .i64 (k : Int)] 3) (by intro y hy; simp at hy; subst hy; rfl) (by have := HLen.out; simp; omega) (by have := HLen.out; unfold maxLen; simp; omega) (by have h1 := b1.size; have h2 := HB.out.size; simp at h1 ⊢; omega) ?_; intro v' w2 ho hg))
        go_roundw
        case rel =>
          refine ⟨k + 1, by omega, by go_num, ?_, ?_⟩
          · show OwnsV _ _ _ _ _
            rw [HNext.out]
            exact ho
          · refine (((HO.out.alloc _).below b1).alloc _).grown ?_ ?_ hg
            · exact (below_next (below_next HB.out (below_box _ _)) b1).alloc (by have h1 := b1.size; have h2 := HB.out.size; simp at h1; omega) _
            · have h1 := b1.size; have h2 := HB.out.size; simp at h1 ⊢; omega
        case measure => simp [intOf]; omega
      | false =>
        simp only [hpu] at hcall
        have HNext : Hid (placesL p l (k + 1) = placesL p l k) := placesL_no HROW.out hpu
        clear hpu
        go_wp2_with (go_at_fn g; refine (hcall _ (below_next HB.out (below_box _ _))).mono ?_; rintro e w1 ⟨rfl, b1⟩)
        go_roundw
        case rel =>
          refine ⟨k + 1, by omega, by go_num, ?_, ?_⟩
          · show OwnsV _ _ _ _ _
            rw [HNext.out]
            exact (HO.out.alloc _).below b1
          · exact below_next (below_next HB.out (below_box _ _)) b1
        case measure => simp [intOf]; omega
    · have hkn : k = n := by omega
      subst hkn
      go_wp2
      go_ret
      rw [HE.out]
      exact ⟨_, rfl, HO.out, HB.out⟩
end Go.Proofs.Ytgakidimipipeaa
