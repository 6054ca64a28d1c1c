/- The inode map: the list of those used, its count; layer 10's fixed fact. The inode map: which numbers are given, how many; the first that is free. The usage table in memory, and the program's small calls on it, by their walks. The program's calls on the usage table: Segs, has, Get, Set, Count, Touch. The usage table's closures, and what is asked of all segments: Clean, First, Live, Uses. -/
import Derived.Test.YtgakidimipipeaaGplgdgmee
import Derived.Test.YtgakidimipipeaaGagbfgjfk
import Derived.Test.YtgakidimipipeaaGcgcppfff
import Derived.Laws.MakeOwn
import Derived.Lib.MinMax
import Derived.RegionTactic
import Derived.ChangeAlike
import Derived.IntWalk
import Derived.Deep.RegionHeld3
namespace Go.Proofs.Ytgakidimipipeaa
open Go.RowKit Go.Sort
set_option linter.unusedVariables false
set_option linter.unusedSimpArgs false
set_option maxRecDepth 100000

def incN (L : List Nat) (k : Nat) : List Nat := (L.take k).map (· + 1) ++ L.drop k
theorem incN_length (L : List Nat) (k : Nat) : (incN L k).length = L.length := by
  unfold incN
  rw [List.length_append, List.length_map, List.length_take, List.length_drop]
  omega
theorem incN_zero (L : List Nat) : incN L 0 = L := by unfold incN; simp
theorem incN_full (L : List Nat) : incN L L.length = L.map (· + 1) := by unfold incN; simp
theorem incN_get {L : List Nat} {k x : Nat} (h : L[k]? = some x) : (incN L k)[k]? = some x := by
  have hk := (List.getElem?_eq_some_iff.1 h).1
  unfold incN
  rw [List.getElem?_append_right (by rw [List.length_map, List.length_take]; omega), List.length_map, List.length_take, show k - min k L.length = 0 by omega, List.getElem?_drop]
  exact h
theorem incN_set {L : List Nat} {k x : Nat} (h : L[k]? = some x) : (incN L k).set k (x + 1) = incN L (k + 1) := by
  have hk := (List.getElem?_eq_some_iff.1 h).1
  have hx := (List.getElem?_eq_some_iff.1 h).2
  unfold incN
  rw [List.set_append_right _ _ (by rw [List.length_map, List.length_take]; omega), List.length_map, List.length_take, show k - min k L.length = 0 by omega, List.drop_eq_getElem_cons hk, List.set_cons_zero, List.take_add_one, h]
  simp
theorem natV_set (l : List Nat) (k x : Nat) : (natV l).set k (.int .i64 (x : Int)) = natV (l.set k x) := by unfold natV; rw [List.map_set]
theorem placesL_bound {α : Type} (p : α → Bool) (l : List α) (k : Nat) : ∀ x ∈ placesL p l k, x < k := by
  intro x hx
  unfold placesL at hx
  exact List.mem_range.1 (List.mem_filter.1 hx).1
def usedI (sl : List SlotD) : List Nat := placesL (fun s : SlotD => !(s.kind == 0)) sl sl.length
def ListPost (w : World) (l : List Nat) (e : Ending) (w' : World) : Prop := ∃ a cap, e = .returned (.slice a l.length cap) ∧ OwnsV w.heap.size w' 3 (.slice a l.length cap) (natV l) ∧ Below w.heap.size w w'
set_option maxHeartbeats 1600000 in
theorem mused_list {B : Nat} {w : World} {g gs : Nat} {sl : List SlotD} (h : IsMap B w g gs sl) :
    Calls Try.prog 50 #[.pointer (some ⟨g, 0, none⟩)] w (ListPost w ((usedI sl).map (· + 1))) := by
  have c0 := map_facts h
  have hlen := h.2.2.2.2.1
  have HPL := Lib.hid (places_slot sl (some ⟨gs, 0, none⟩) sl.length w (map_reads h) (by omega) (fun _ => True) (fun _ _ => trivial) (fun s : SlotD => !(s.kind == 0)) 96 #[] enters_used (used_pred w))
  have hL : ∀ x ∈ usedI sl, x < 200 := fun x hx => by have := placesL_bound _ sl sl.length x hx; omega
  obtain ⟨L, hLe⟩ : ∃ L, usedI sl = L := ⟨_, rfl⟩
  have HLE : Hid (placesL (fun s : SlotD => !(s.kind == 0)) sl sl.length = L) := hLe
  rw [hLe] at hL ⊢
  have HL := Lib.hid hL
  clear h hLe hL
  have hlm : L.length ≤ 200 := by rw [← HLE.out]; exact Nat.le_trans (placesL_length _ _ _) hlen
  obtain ⟨n, hn⟩ : ∃ n, L.length = n := ⟨_, rfl⟩
  have HN := Lib.hid hn
  have HEND : Hid (ListPost w (L.map (· + 1)) = fun e w' => ∃ a cap, e = .returned (.slice a n cap) ∧ OwnsV w.heap.size w' 3 (.slice a n cap) (natV (L.map (· + 1))) ∧ Below w.heap.size w w') := by
    show _ = _; unfold ListPost; rw [List.length_map, hn]
  rw [hn] at hlm
  rw [HEND.out]
  clear hn HEND
  go_enter Try.func50, Try.ntmps50
  go_wp2_with fail
  refine HPL.out.mono ?_
  rintro e w1 ⟨v, rfl, ho, b1⟩
  rw [HLE.out] at ho
  obtain ⟨a, cap, rfl, hr, _, _⟩ := ho.reads
  rw [natV_length, HN.out] at ho ⊢
  have HO1 := Lib.hid ho
  have HB1 := Lib.hid b1
  clear ho hr b1
  go_wp2
  go_loopw [12] (fun x12 wr => ∃ k : Nat, k ≤ n ∧ x12 = .int .i64 k ∧ Hid (OwnsV w.heap.size wr 3 (.slice a n cap) (natV (incN L k))) ∧ Hid (Below w.heap.size w wr)) (fun i _ => n - (intOf i).toNat)
  case atStart => exact ⟨0, Nat.zero_le _, rfl, by show OwnsV _ _ _ _ _; rw [incN_zero]; exact HO1.out, HB1.out⟩
  case round =>
    obtain ⟨k, hk, rfl, HO, HB⟩ := hrel
    by_cases hlt : k < n
    · obtain ⟨x, hrow⟩ : ∃ r, L[k]? = some r := ⟨_, List.getElem?_eq_getElem (by rw [HN.out]; exact hlt)⟩
      have hx200 := HL.out x (List.mem_of_getElem? hrow)
      have hln : (natV (incN L k)).length = n := by rw [natV_length, incN_length, HN.out]
      have hg : ∃ ga, a = some ⟨ga, 0, none⟩ := by
        rcases HO.out.head with ⟨e, _⟩ | ⟨ga, _, e, _⟩
        · obtain ⟨_, e2, _⟩ := Value.slice.inj e
          omega
        · exact ⟨ga, (Value.slice.inj e).1⟩
      obtain ⟨ga, rfl⟩ := hg
      have hcell := HO.out.cell (natV_get (incN_get hrow))
      have hfr := HO.out.frozen hln k
      have hst := HO.out.stored hln k (.int .i64 ((x + 1 : Nat) : Int))
      rw [natV_set, incN_set hrow] at hst
      have hw1 : IntKind.i64.wrap ((x : Int) + 1) = ((x + 1 : Nat) : Int) := by rw [Int.natCast_add]; exact IntWalk.i64_in _ (by omega)
      have HST := Lib.hid hst
      have hx1 : (0 : Int) ≤ (k : Int) := by omega
      have hx2 : (k : Int) < (n : Int) := by omega
      clear hst hrow hln
      go_wp2
      go_roundw
      case rel => exact ⟨k + 1, by omega, by go_num, HST.out.1, HO.out.grown HB.out HB.out.size HST.out.2⟩
      case measure => simp [intOf]; omega
    · have hkn : k = n := by omega
      subst hkn
      have ht := HO.out
      rw [← HN.out, incN_full, HN.out] at ht
      have HTT := Lib.hid ht
      clear ht
      go_wp2
      go_ret
      exact ⟨a, cap, rfl, HTT.out, HB.out⟩
theorem mcount_is {B : Nat} {w : World} {g gs : Nat} {sl : List SlotD} (h : IsMap B w g gs sl) :
    Calls Try.prog 26 #[.pointer (some ⟨g, 0, none⟩)] w fun e w' => e = .returned (.int .i64 ((usedI sl).length : Int)) ∧ Below w.heap.size w w' := by
  have H := Lib.hid h
  clear h
  go_enter Try.func26, Try.ntmps26
  go_wp2_with fail
  refine (mused_list H.out).mono ?_
  rintro e w1 ⟨a, cap, rfl, ho, hb⟩
  rw [List.length_map]
  have HB := Lib.hid hb
  clear ho hb
  go_wp2
  go_ret
  exact ⟨rfl, HB.out⟩
def map0 : List SlotD := [zeroS, zeroS]
def map1 : List SlotD := [⟨0, 1, 0, 1⟩, zeroS]
set_option maxHeartbeats 2000000 in
theorem awake10_true (w : World) : Calls Try.prog 8 #[] w fun e w' => e = .returned (.bool true) ∧ Below w.heap.size w w' := by
  have h1 : ((usedI map1).length : Int) = 1 := by decide
  have H1 := Lib.hid h1
  clear h1
  go_enter Try.func8, Try.ntmps8
  go_wp2_with fail
  refine (mnew_is 2 w 2 (by decide)).mono ?_
  rintro e w1 ⟨g, gs, rfl, t1, b1⟩
  have T1 : Hid (IsMap w.heap.size w1 g gs map0) := t1
  have B1 := Lib.hid b1
  clear t1 b1
  go_wp2_with fail
  refine (malloc_yes T1.out 0 zeroS rfl (by decide) 1 (by decide) (by decide)).mono ?_
  rintro e w2 ⟨rfl, t2, g2⟩
  have T2 : Hid (IsMap w.heap.size w2 g gs map1) := t2
  have B2 : Hid (Below w.heap.size w w2) := T1.out.2.1.grown B1.out B1.out.size g2
  rw [show nextV zeroS.version = 1 by decide, show ((0 : Nat) : Int) + 1 = 1 by decide]
  clear t2 g2 T1 B1
  go_wp2_with fail
  refine (malloc_bad 0 (by decide)).mono ?_
  rintro e w3 ⟨rfl, rfl⟩
  go_wp2_with fail
  refine (mcount_is T2.out).mono ?_
  rintro e w3 ⟨rfl, b3⟩
  rw [H1.out]
  go_wp2
  go_ret
  exact ⟨rfl, below_next B2.out b3⟩
end Go.Proofs.Ytgakidimipipeaa

namespace Go.Proofs.Ytgakidimipipeaa
open Go.RowKit Go.Sort
set_option linter.unusedVariables false
set_option linter.unusedSimpArgs false

def usedAt (sl : List SlotD) (k : Int) : Bool := decide (1 ≤ k) && (match sl[(k - 1).toNat]? with | some s => !(s.kind == 0) | none => false)
def versAt (sl : List SlotD) (k : Int) : Int := if 1 ≤ k then (match sl[(k - 1).toNat]? with | some s => s.version | none => 0) else 0
theorem usedAt_of {sl : List SlotD} {i : Nat} {s : SlotD} (h : sl[i]? = some s) : usedAt sl ((i : Int) + 1) = !(s.kind == 0) := by
  unfold usedAt
  have e : ((i : Int) + 1 - 1).toNat = i := by omega
  rw [e, h]
  simp
  omega
theorem usedAt_out {sl : List SlotD} {k : Int} (h : k < 1 ∨ (sl.length : Int) < k) : usedAt sl k = false := by
  unfold usedAt
  by_cases h1 : 1 ≤ k
  · rw [List.getElem?_eq_none (by omega)]
    simp
  · simp [h1]
theorem versAt_of {sl : List SlotD} {i : Nat} {s : SlotD} (h : sl[i]? = some s) : versAt sl ((i : Int) + 1) = s.version := by
  unfold versAt
  have e : ((i : Int) + 1 - 1).toNat = i := by omega
  rw [if_pos (by omega), e, h]
theorem usedAt_set {sl : List SlotD} {i : Nat} (hi : i < sl.length) (s' : SlotD) (k : Int) : usedAt (sl.set i s') k = if k = (i : Int) + 1 then !(s'.kind == 0) else usedAt sl k := by
  by_cases e : k = (i : Int) + 1
  · subst e
    rw [if_pos rfl, usedAt_of (List.getElem?_set_self hi)]
  · rw [if_neg e]
    unfold usedAt
    by_cases h1 : 1 ≤ k
    · rw [List.getElem?_set_ne (by omega)]
    · simp [h1]
theorem versAt_set {sl : List SlotD} {i : Nat} (hi : i < sl.length) (s' : SlotD) (k : Int) : versAt (sl.set i s') k = if k = (i : Int) + 1 then s'.version else versAt sl k := by
  by_cases e : k = (i : Int) + 1
  · subst e
    rw [if_pos rfl, versAt_of (List.getElem?_set_self hi)]
  · rw [if_neg e]
    unfold versAt
    by_cases h1 : 1 ≤ k
    · rw [if_pos h1, if_pos h1, List.getElem?_set_ne (by omega)]
    · rw [if_neg h1, if_neg h1]
theorem placesL_count {α : Type} (p : α → Bool) (l : List α) : ∀ k, k ≤ l.length → (placesL p l k).length = (l.take k).countP p
  | 0, _ => by simp [placesL]
  | k + 1, h => by
    have hx : l[k]? = some l[k] := List.getElem?_eq_getElem (by omega)
    rw [placesL_succ hx, List.length_append, placesL_count p l k (by omega), List.take_add_one, hx, List.countP_append]
    by_cases hp : p l[k] = true <;> simp [hp]
theorem usedI_count (sl : List SlotD) : (usedI sl).length = sl.countP (fun s : SlotD => !(s.kind == 0)) := by
  unfold usedI
  rw [placesL_count _ _ _ (Nat.le_refl _), List.take_length]
theorem usedI_set {sl : List SlotD} {i : Nat} {s : SlotD} (h : sl[i]? = some s) (s' : SlotD) :
    (usedI (sl.set i s')).length + (if (!(s.kind == 0)) = true then 1 else 0) = (usedI sl).length + (if (!(s'.kind == 0)) = true then 1 else 0) := by
  obtain ⟨hi, e⟩ := List.getElem?_eq_some_iff.1 h
  rw [usedI_count, usedI_count, List.countP_set hi, e]
  have : (if (!(s.kind == 0)) = true then 1 else 0) ≤ sl.countP (fun s : SlotD => !(s.kind == 0)) := by
    split
    · rename_i hp
      exact List.countP_pos_iff.2 ⟨s, List.mem_of_getElem? h, hp⟩
    · exact Nat.zero_le _
  omega
theorem firstI_or {α : Type} (p : α → Bool) (l : List α) : (firstI p l = -1 ∧ ∀ s ∈ l, p s = false) ∨ ∃ (i : Nat) (s : α), firstI p l = (i : Int) ∧ l[i]? = some s ∧ p s = true ∧ ∀ (j : Nat) (t : α), j < i → l[j]? = some t → p t = false := by
  have key : ∀ k, k ≤ l.length → (∀ (j : Nat) (t : α), j < k → l[j]? = some t → p t = false) ∨ ∃ (i : Nat) (s : α), l[i]? = some s ∧ p s = true ∧ ∀ (j : Nat) (t : α), j < i → l[j]? = some t → p t = false := by
    intro k
    induction k with
    | zero => exact fun _ => .inl fun j t hj => by omega
    | succ k ih =>
      intro hk
      rcases ih (by omega) with h | h
      · have hx : l[k]? = some l[k] := List.getElem?_eq_getElem (by omega)
        cases hp : p l[k] with
        | true => exact .inr ⟨k, l[k], hx, hp, h⟩
        | false =>
          refine .inl fun j t hj ht => ?_
          by_cases e : j = k
          · subst e
            rw [hx] at ht
            cases ht
            exact hp
          · exact h j t (by omega) ht
      · exact .inr h
  have empty : ∀ k, (∀ (j : Nat) (t : α), j < k → l[j]? = some t → p t = false) → placesL p l k = [] := by
    intro k h
    unfold placesL
    rw [List.filter_eq_nil_iff]
    intro j hj
    cases hx : l[j]? with
    | none => simp
    | some t => simp [h j t (List.mem_range.1 hj) hx]
  rcases key l.length (Nat.le_refl _) with h | ⟨i, s, h1, h2, h3⟩
  · refine .inl ⟨?_, fun s hs => ?_⟩
    · unfold firstI
      rw [empty _ h]
    · obtain ⟨j, hj⟩ := List.getElem?_of_mem hs
      exact h j s (List.getElem?_eq_some_iff.1 hj).1 hj
  · exact .inr ⟨i, s, firstI_hit (empty i h3) h1 h2, h1, h2, h3⟩
theorem usedI_full {sl : List SlotD} (h : ∀ s ∈ sl, (s.kind == 0) = false) : (usedI sl).length = sl.length := by
  rw [usedI_count]
  exact List.countP_eq_length.2 fun s hs => by rw [h s hs]; rfl
end Go.Proofs.Ytgakidimipipeaa

namespace Go.Proofs.Ytgakidimipipeaa
open Go.RowKit Go.Sort
set_option linter.unusedVariables false
set_option linter.unusedSimpArgs false
set_option maxRecDepth 100000

def UseOk (room : Int) (u : UseD) : Prop := 0 ≤ u.live ∧ u.live ≤ room ∧ 0 ≤ u.state ∧ u.state ≤ 3 ∧ 0 ≤ u.age ∧ u.age < 4294967296
def TabOk (room : Int) (us : List UseD) : Prop := 1 ≤ room ∧ room ≤ 4096 ∧ 1 ≤ us.length ∧ us.length ≤ 200 ∧ ∀ u ∈ us, UseOk room u
def tabHead (gs : Nat) (room : Int) (n : Nat) : Array Value := #[.int .i64 room, .slice (some ⟨gs, 0, none⟩) n n]
def IsTab (B : Nat) (w : World) (g gs : Nat) (room : Int) (us : List UseD) : Prop :=
  w.heap[g]? = some (.cells (tabHead gs room us.length) 117 (0, 0)) ∧ OwnsR' B w 123 3 (.slice (some ⟨gs, 0, none⟩) us.length us.length) (usesV us) ∧ B ≤ g ∧ TabOk room us
theorem OwnsR'.apart {B : Nat} {w : World} {e t : TypeId} {k : Nat} {v : Value} {l : List (List Value)} {g : Nat} {C : Array Value} {fr : Nat × Nat} (h : OwnsR' B w e k v l) (hg : w.heap[g]? = some (.cells C t fr)) (hne : e ≠ t) : v.ownBlock ≠ some g := by
  obtain ⟨_, _, h⟩ := h
  rcases h with ⟨rfl, _⟩ | ⟨g', cap, cur, rfl, _, hg', _⟩
  · intro h; cases h
  · intro h
    obtain rfl : g' = g := by simpa [Value.ownBlock] using h
    rw [hg] at hg'
    simp at hg'
    exact hne hg'.2.1.symm
theorem IsTab.apart {B : Nat} {w : World} {g gs : Nat} {room : Int} {us : List UseD} (h : IsTab B w g gs room us) : gs ≠ g := by
  have := h.2.1.apart h.1 (by decide)
  intro e
  exact this (by rw [e]; rfl)
theorem IsTab.below {B : Nat} {w w' : World} {g gs : Nat} {room : Int} {us : List UseD} (h : IsTab B w g gs room us) (b : Below w.heap.size w w') : IsTab B w' g gs room us :=
  ⟨(b.block g (Array.getElem?_eq_some_iff.1 h.1).1).trans h.1, h.2.1.below b, h.2.2⟩
theorem IsTab.less {B B' : Nat} {w : World} {g gs : Nat} {room : Int} {us : List UseD} (h : IsTab B w g gs room us) (hB : B' ≤ B) : IsTab B' w g gs room us := ⟨h.1, h.2.1.less hB, Nat.le_trans hB h.2.2.1, h.2.2.2⟩
theorem tab_facts {B : Nat} {w : World} {g gs : Nat} {room : Int} {us : List UseD} (h : IsTab B w g gs room us) :
    w.cell? ⟨g, 0, none⟩ = some (.int .i64 room) ∧ w.cell? ⟨g, 1, none⟩ = some (.slice (some ⟨gs, 0, none⟩) us.length us.length) := by
  refine ⟨?_, ?_⟩ <;> (unfold World.cell?; rw [h.1]; rfl)
theorem tab_lt {B : Nat} {w : World} {g gs : Nat} {room : Int} {us : List UseD} (h : IsTab B w g gs room us) : g < w.heap.size ∧ gs < w.heap.size := ⟨(Array.getElem?_eq_some_iff.1 h.1).1, (h.2.1.lt gs rfl).2⟩
theorem tab_row {B : Nat} {w : World} {g gs : Nat} {room : Int} {us : List UseD} (h : IsTab B w g gs room us) {i : Nat} {u : UseD} (hu : us[i]? = some u) :
    w.cell? ⟨gs, i * 3, none⟩ = some (.int .i64 u.live) ∧ w.cell? ⟨gs, i * 3 + 1, none⟩ = some (.int .i64 u.state) ∧ w.cell? ⟨gs, i * 3 + 2, none⟩ = some (.int .u32 u.age) := by
  have hh := h.2.1.head.2.2 i _ (usesV_get hu)
  exact ⟨hh 0 _ rfl, hh 1 _ rfl, hh 2 _ rfl⟩
theorem tab_free {B : Nat} {w : World} {g gs : Nat} {room : Int} {us : List UseD} (h : IsTab B w g gs room us) (j : Nat) : w.frozen? ⟨gs, j, none⟩ = false := h.2.1.frozen (usesV_length us) j
/-- A cell of a row is another one. -/
theorem tab_store {B : Nat} {w : World} {g gs : Nat} {room : Int} {us : List UseD} (h : IsTab B w g gs room us) {i j : Nat} {u u' : UseD} (hu : us[i]? = some u) (hj : j < 3) (x : Value) (hx : (useV u).set j x = useV u') (hok : UseOk room u') :
    IsTab B (w.setCell ⟨gs, i * 3 + j, none⟩ x) g gs room (us.set i u') ∧ w.grownBy (w.setCell ⟨gs, i * 3 + j, none⟩ x) (some gs) := by
  have hs := h.2.1.stored (usesV_length us) (usesV_get hu) hj x
  have e : (usesV us).set i ((useV u).set j x) = usesV (us.set i u') := by rw [hx]; unfold usesV; rw [List.map_set]
  rw [e] at hs
  refine ⟨⟨?_, ?_, h.2.2.1, ?_⟩, hs.2⟩
  · rw [List.length_set, ← h.1]
    exact hs.2.block g (tab_lt h).1 (by rw [Ne, Option.some.injEq]; exact fun e => h.apart e.symm)
  · rw [List.length_set]
    exact hs.1
  · refine ⟨h.2.2.2.1, h.2.2.2.2.1, by rw [List.length_set]; exact h.2.2.2.2.2.1, by rw [List.length_set]; exact h.2.2.2.2.2.2.1, fun y hy => ?_⟩
    rcases List.mem_or_eq_of_mem_set hy with hy | rfl
    · exact h.2.2.2.2.2.2.2 y hy
    · exact hok
def clampI (most n : Int) : Int := min (max n 1) most
theorem clampI_of {most n : Int} (hm : 1 ≤ most) : 1 ≤ clampI most n ∧ clampI most n ≤ most := by unfold clampI; omega
def zeroU : UseD := ⟨0, 0, 0⟩
theorem info_use : (Try.prog.info? 123).map (fun i => (i.zero, i.size, i.bytes)) = some (some (.agg #[.int .i64 0, .int .i64 0, .int .u32 0]), 3, 24) := by kernel_rfl
set_option maxHeartbeats 1000000 in
theorem upTo_is (most n : Int) (w : World) (h1 : I64 n) (h2 : I64 most) : Calls Try.prog 58 #[.int .i64 most, .int .i64 n] w fun e w' => e = .returned (.int .i64 (clampI most n)) ∧ w = w' := by
  go_enter Try.func58, Try.ntmps58
  go_wp2
  go_ret
  exact ⟨rfl, rfl⟩
theorem made_uses (n : Nat) : (madeCells #[.int .i64 0, .int .i64 0, .int .u32 0] (n * 3)).toList = flatR (usesV (List.replicate n zeroU)) := by
  have hall : ∀ p ∈ usesV (List.replicate n zeroU), p.length = 3 := by
    intro p hp
    unfold usesV at hp
    rw [List.mem_map] at hp
    obtain ⟨u, _, rfl⟩ := hp
    rfl
  apply List.ext_getElem?
  intro k
  rw [Array.getElem?_toList]
  by_cases hk : k < n * 3
  · have hd : k = (k / 3) * 3 + k % 3 := by omega
    have hq : k / 3 < n := by omega
    have hm : k % 3 < 3 := Nat.mod_lt _ (by decide)
    have h1 : (usesV (List.replicate n zeroU))[k / 3]? = some (useV zeroU) := usesV_get (by rw [List.getElem?_replicate, if_pos hq])
    have h2 := flatR_get hall h1 hm
    rw [← hd] at h2
    rw [h2]
    unfold madeCells
    rw [Array.getElem?_map, Array.getElem?_range, if_pos hk]
    simp only [Option.map_some]
    show some ((#[Value.int .i64 0, Value.int .i64 0, Value.int .u32 0] : Array Value)[k % 3]!) = _
    obtain h | h | h : k % 3 = 0 ∨ k % 3 = 1 ∨ k % 3 = 2 := by omega
    all_goals rw [h]; rfl
  · rw [Array.getElem?_eq_none (by rw [size_madeCells]; omega), List.getElem?_eq_none (by rw [flatR_length hall, usesV_length, List.length_replicate]; omega)]
theorem new_ok {room : Int} (h1 : 1 ≤ room) (h2 : room ≤ 4096) {n : Nat} (h3 : 1 ≤ n) (h4 : n ≤ 200) : TabOk room (List.replicate n zeroU) := by
  refine ⟨h1, h2, by rw [List.length_replicate]; exact h3, by rw [List.length_replicate]; exact h4, fun u hu => ?_⟩
  rw [List.eq_of_mem_replicate hu]
  exact ⟨by decide, by show (0 : Int) ≤ room; omega, by decide, by decide, by decide, by decide⟩
theorem run_make_rowU (n : Nat) (hn : n ≤ 200) (w : World) :
    (Instr.makeSlice 63 (.int .i64 (n : Int)) (.int .i64 (n : Int))).run Try.prog w = .ok (.slice (some ⟨w.heap.size, 0, none⟩) n n) (w.alloc (.cells (madeCells #[.int .i64 0, .int .i64 0, .int .u32 0] (n * 3)) 123)) := by
  obtain ⟨i0, hi, hz0, hz1, hz2⟩ := info_parts info_use
  have hr := run_make (P := Try.prog) w 63 123 i0 (.agg #[.int .i64 0, .int .i64 0, .int .u32 0]) Try.underlying63 hi hz0 .i64 .i64 n n (by omega) (by omega) (by rw [hz2]; omega) (by omega)
  simp only [Int.toNat_natCast, hz1, Value.cells] at hr
  exact hr
def NewPost (w : World) (room : Int) (us : List UseD) (e : Ending) (w' : World) : Prop := ∃ g gs, e = .returned (.pointer (some ⟨g, 0, none⟩)) ∧ IsTab w.heap.size w' g gs room us ∧ Below w.heap.size w w'
set_option maxHeartbeats 1600000 in
theorem tnew_is (segs room : Int) (w : World) (h1 : I64 segs) (h2 : I64 room) (n : Nat) (hn : clampI 200 segs = n) :
    Calls Try.prog 17 #[.int .i64 segs, .int .i64 room] w (NewPost w (clampI 4096 room) (List.replicate n zeroU)) := by
  have hb1 := clampI_of (most := 4096) (n := room) (by decide)
  have hb2 := clampI_of (most := 200) (n := segs) (by decide)
  rw [hn] at hb2
  have hn1 : 1 ≤ n := by omega
  have hn2 : n ≤ 200 := by omega
  have hok := new_ok hb1.1 hb1.2 hn1 hn2
  have HOK := Lib.hid hok
  have hmk := fun W => run_make_rowU n hn2 W
  have H1 := Lib.hid h1
  have H2 := Lib.hid h2
  have HN := Lib.hid hn
  clear hok h1 h2 hn hb1 hb2
  go_enter Try.func17, Try.ntmps17
  go_wp2_with fail
  refine (upTo_is 4096 room _ H2.out ⟨by decide, by decide⟩).mono ?_
  rintro e w' ⟨rfl, rfl⟩
  generalize clampI 4096 room = r at *
  go_wp2_with fail
  refine (upTo_is 200 segs _ H1.out ⟨by decide, by decide⟩).mono ?_
  rintro e w' ⟨rfl, rfl⟩
  rw [HN.out]
  go_wp2
  go_ret
  refine ⟨w.heap.size + 1, w.heap.size, rfl, ⟨?_, ?_, Nat.le_succ _, HOK.out⟩, ((Below.refl _ _).alloc (Nat.le_refl _) _).alloc (by simp) _⟩
  · rw [heap_alloc2_new, List.length_replicate]
    rfl
  · have hl : (usesV (List.replicate n zeroU)).length = n := by rw [usesV_length, List.length_replicate]
    have hnew := OwnsR'.new (B := w.heap.size) (w := w) (e := 123) (k := 3) (l := usesV (List.replicate n zeroU)) (by
      intro p hp
      unfold usesV at hp
      rw [List.mem_map] at hp
      obtain ⟨u, _, rfl⟩ := hp
      rfl) (Nat.le_refl _) (by rw [hl]; unfold maxLen; omega) (made_uses n)
    rw [hl] at hnew
    rw [List.length_replicate]
    exact hnew.alloc _
end Go.Proofs.Ytgakidimipipeaa

namespace Go.Proofs.Ytgakidimipipeaa
open Go.RowKit Go.Sort
set_option linter.unusedVariables false
set_option linter.unusedSimpArgs false
set_option maxRecDepth 100000

theorem tsegs_is {B : Nat} {w : World} {g gs : Nat} {room : Int} {us : List UseD} (h : IsTab B w g gs room us) :
    Calls Try.prog 74 #[.pointer (some ⟨g, 0, none⟩)] w fun e w' => e = .returned (.int .i64 us.length) ∧ w = w' := by
  obtain ⟨c0, c1⟩ := tab_facts h
  clear h
  go_enter Try.func74, Try.ntmps74
  go_wp2
  go_ret
  exact ⟨rfl, rfl⟩
theorem thas_yes {B : Nat} {w : World} {g gs : Nat} {room : Int} {us : List UseD} (h : IsTab B w g gs room us) (i : Nat) (hi : i < us.length) :
    Calls Try.prog 63 #[.pointer (some ⟨g, 0, none⟩), .int .i64 i] w fun e w' => e = .returned (.bool true) ∧ w = w' := by
  obtain ⟨c0, c1⟩ := tab_facts h
  clear h
  have h1 : decide ((0 : Int) ≤ (i : Int)) = true := by simp
  have h2 : decide ((i : Int) < (us.length : Int)) = true := by simp; omega
  go_enter Try.func63, Try.ntmps63
  go_wp2
  go_ret
  exact ⟨rfl, rfl⟩
theorem thas_no {B : Nat} {w : World} {g gs : Nat} {room : Int} {us : List UseD} (h : IsTab B w g gs room us) (s : Int) (hs : s < 0 ∨ (us.length : Int) ≤ s) :
    Calls Try.prog 63 #[.pointer (some ⟨g, 0, none⟩), .int .i64 s] w fun e w' => e = .returned (.bool false) ∧ w = w' := by
  obtain ⟨c0, c1⟩ := tab_facts h
  clear h
  by_cases h0 : s < 0
  · have h1 : ¬ (0 : Int) ≤ s := by omega
    go_enter Try.func63, Try.ntmps63
    go_wp2
    go_ret
    exact ⟨rfl, rfl⟩
  · have h1 : (0 : Int) ≤ s := by omega
    have h2 : ¬ s < (us.length : Int) := by omega
    clear hs
    go_enter Try.func63, Try.ntmps63
    go_wp2
    go_ret
    exact ⟨rfl, rfl⟩
theorem isState_yes (n : Int) (w : World) (h0 : 0 ≤ n) (h1 : n ≤ 3) : Calls Try.prog 64 #[.int .i64 n] w fun e w' => e = .returned (.bool true) ∧ w = w' := by
  have h2 : n < 4 := by omega
  go_enter Try.func64, Try.ntmps64
  go_wp2
  go_ret
  exact ⟨rfl, rfl⟩
theorem isState_no (n : Int) (w : World) (h : n < 0 ∨ 3 < n) : Calls Try.prog 64 #[.int .i64 n] w fun e w' => e = .returned (.bool false) ∧ w = w' := by
  by_cases h0 : n < 0
  · have h1 : ¬ (0 : Int) ≤ n := by omega
    go_enter Try.func64, Try.ntmps64
    go_wp2
    go_ret
    exact ⟨rfl, rfl⟩
  · have h1 : (0 : Int) ≤ n := by omega
    have h2 : ¬ n < 4 := by omega
    clear h
    go_enter Try.func64, Try.ntmps64
    go_wp2
    go_ret
    exact ⟨rfl, rfl⟩
/-- What a call that changes the table leaves. -/
def TabPost (B : Nat) (w : World) (g gs : Nat) (room : Int) (us : List UseD) (v : Value) (e : Ending) (w' : World) : Prop :=
  e = .returned v ∧ IsTab B w' g gs room us ∧ w.grownBy w' (some gs)
theorem TabPost.same {B : Nat} {w : World} {g gs : Nat} {room : Int} {us : List UseD} (h : IsTab B w g gs room us) {v : Value} : TabPost B w g gs room us v (.returned v) w := ⟨rfl, h, grown_same _ _⟩
set_option maxHeartbeats 1000000 in
theorem tset_yes {B : Nat} {w : World} {g gs : Nat} {room : Int} {us : List UseD} (h : IsTab B w g gs room us) (i : Nat) (u : UseD) (hu : us[i]? = some u) (s : Int) (hs0 : 0 ≤ s) (hs1 : s ≤ 3) :
    Calls Try.prog 23 #[.pointer (some ⟨g, 0, none⟩), .int .i64 i, .int .i64 s] w (TabPost B w g gs room (us.set i ⟨u.live, s, u.age⟩) (.int .i64 0)) := by
  obtain ⟨c0, c1⟩ := tab_facts h
  obtain ⟨r0, r1, r2⟩ := tab_row h hu
  have hi := (List.getElem?_eq_some_iff.1 hu).1
  have ho : UseOk room u := h.2.2.2.2.2.2.2 u (List.mem_of_getElem? hu)
  have hst := tab_store (j := 1) h hu (by decide) (.int .i64 s) (u' := ⟨u.live, s, u.age⟩) rfl ⟨ho.1, ho.2.1, hs0, hs1, ho.2.2.2.2⟩
  have hfr := tab_free h (i * 3 + 1)
  have H := Lib.hid h
  have HST := Lib.hid hst
  have hi2 : (i : Int) < (us.length : Int) := by omega
  have hi0 : (0 : Int) ≤ (i : Int) := by omega
  have HI := Lib.hid hi
  clear h hst ho hu hi
  go_enter Try.func23, Try.ntmps23
  go_wp2_with fail
  refine (thas_yes H.out i HI.out).mono ?_
  rintro e w' ⟨rfl, rfl⟩
  go_wp2_with fail
  refine (isState_yes s _ hs0 hs1).mono ?_
  rintro e w' ⟨rfl, rfl⟩
  go_wp2
  go_ret
  exact ⟨rfl, HST.out.1, HST.out.2⟩
theorem tset_no {B : Nat} {w : World} {g gs : Nat} {room : Int} {us : List UseD} (h : IsTab B w g gs room us) (x s : Int) (hs : (x < 0 ∨ (us.length : Int) ≤ x) ∨ s < 0 ∨ 3 < s) :
    Calls Try.prog 23 #[.pointer (some ⟨g, 0, none⟩), .int .i64 x, .int .i64 s] w fun e w' => e = .returned (.int .i64 1) ∧ w = w' := by
  by_cases hx : x < 0 ∨ (us.length : Int) ≤ x
  · have H := Lib.hid h
    have HS := Lib.hid hx
    clear h hs hx
    go_enter Try.func23, Try.ntmps23
    go_wp2_with fail
    refine (thas_no H.out x HS.out).mono ?_
    rintro e w' ⟨rfl, rfl⟩
    go_wp2
    go_ret
    exact ⟨rfl, rfl⟩
  · have hs' : s < 0 ∨ 3 < s := by omega
    obtain ⟨i, rfl⟩ : ∃ i : Nat, x = i := Int.eq_ofNat_of_zero_le (by omega)
    have hi : i < us.length := by omega
    have H := Lib.hid h
    have HS := Lib.hid hs'
    have HI := Lib.hid hi
    clear h hs hx hs' hi
    go_enter Try.func23, Try.ntmps23
    go_wp2_with fail
    refine (thas_yes H.out i HI.out).mono ?_
    rintro e w' ⟨rfl, rfl⟩
    go_wp2_with fail
    refine (isState_no s _ HS.out).mono ?_
    rintro e w' ⟨rfl, rfl⟩
    go_wp2
    go_ret
    exact ⟨rfl, rfl⟩
set_option maxHeartbeats 1000000 in
theorem tcount_yes {B : Nat} {w : World} {g gs : Nat} {room : Int} {us : List UseD} (h : IsTab B w g gs room us) (i : Nat) (u : UseD) (hu : us[i]? = some u) (n : Int) (hn0 : -u.live ≤ n) (hn1 : n ≤ room - u.live) :
    Calls Try.prog 22 #[.pointer (some ⟨g, 0, none⟩), .int .i64 i, .int .i64 n] w (TabPost B w g gs room (us.set i ⟨u.live + n, u.state, u.age⟩) (.int .i64 0)) := by
  obtain ⟨c0, c1⟩ := tab_facts h
  obtain ⟨r0, r1, r2⟩ := tab_row h hu
  have hi := (List.getElem?_eq_some_iff.1 hu).1
  have ho : UseOk room u := h.2.2.2.2.2.2.2 u (List.mem_of_getElem? hu)
  have hst := fun W (hW : IsTab B W g gs room us) => tab_store (j := 0) hW hu (by decide) (.int .i64 (u.live + n)) (u' := ⟨u.live + n, u.state, u.age⟩) rfl ⟨by show 0 ≤ u.live + n; omega, by show u.live + n ≤ room; omega, ho.2.2⟩
  have hfr := tab_free h (i * 3)
  have H := Lib.hid h
  have HST := Lib.hid hst
  have hi2 : (i : Int) < (us.length : Int) := by omega
  have hi0 : (0 : Int) ≤ (i : Int) := by omega
  have HI := Lib.hid hi
  obtain ⟨o1, o2, _⟩ := ho
  have hr1 := h.2.2.2.1
  have hr2 := h.2.2.2.2.1
  have t1 : ¬ n < -u.live := by omega
  have t2 : ¬ room - u.live < n := by omega
  clear h hst hu hi
  go_enter Try.func22, Try.ntmps22
  go_wp2_with fail
  refine (thas_yes H.out i HI.out).mono ?_
  rintro e w' ⟨rfl, rfl⟩
  go_wp2
  have e1 : decide (n < -u.live) = false := by simpa using t1
  have e2 : decide (room - u.live < n) = false := by simpa using t2
  have e3 : IntKind.i64.wrap (-u.live) = -u.live := IntWalk.i64_in _ (by omega)
  have e4 : IntKind.i64.wrap (room - u.live) = room - u.live := IntWalk.i64_in _ (by omega)
  go_quiet (fail)
  clear e3 e4
  go_wp2
  go_ret
  have hh := HST.out _ (H.out.below (below_drewN w nq))
  exact ⟨rfl, hh.1, grown_of_drewN hh.2⟩
theorem tcount_no {B : Nat} {w : World} {g gs : Nat} {room : Int} {us : List UseD} (h : IsTab B w g gs room us) (x n : Int) (hs : x < 0 ∨ (us.length : Int) ≤ x) :
    Calls Try.prog 22 #[.pointer (some ⟨g, 0, none⟩), .int .i64 x, .int .i64 n] w (TabPost B w g gs room us (.int .i64 1)) := by
  have H := Lib.hid h
  have HS := Lib.hid hs
  clear h hs
  go_enter Try.func22, Try.ntmps22
  go_wp2_with fail
  refine (thas_no H.out x HS.out).mono ?_
  rintro e w' ⟨rfl, rfl⟩
  go_wp2
  go_ret
  exact TabPost.same H.out
set_option maxHeartbeats 1000000 in
theorem tcount_off {B : Nat} {w : World} {g gs : Nat} {room : Int} {us : List UseD} (h : IsTab B w g gs room us) (i : Nat) (u : UseD) (hu : us[i]? = some u) (n : Int) (hn : n < -u.live ∨ room - u.live < n) :
    Calls Try.prog 22 #[.pointer (some ⟨g, 0, none⟩), .int .i64 i, .int .i64 n] w (TabPost B w g gs room us (.int .i64 1)) := by
  obtain ⟨c0, c1⟩ := tab_facts h
  obtain ⟨r0, r1, r2⟩ := tab_row h hu
  have hi := (List.getElem?_eq_some_iff.1 hu).1
  have ho : UseOk room u := h.2.2.2.2.2.2.2 u (List.mem_of_getElem? hu)
  have H := Lib.hid h
  have hi2 : (i : Int) < (us.length : Int) := by omega
  have hi0 : (0 : Int) ≤ (i : Int) := by omega
  have HI := Lib.hid hi
  obtain ⟨o1, o2, _⟩ := ho
  have hr1 := h.2.2.2.1
  have hr2 := h.2.2.2.2.1
  have e3 : IntKind.i64.wrap (-u.live) = -u.live := IntWalk.i64_in _ (by omega)
  have e4 : IntKind.i64.wrap (room - u.live) = room - u.live := IntWalk.i64_in _ (by omega)
  have E3 := Lib.hid e3
  have E4 := Lib.hid e4
  clear h hu hi e3 e4
  by_cases hn1 : n < -u.live
  · have e1 : decide (n < -u.live) = true := by simpa using hn1
    clear hn
    go_enter Try.func22, Try.ntmps22
    go_wp2_with fail
    refine (thas_yes H.out i HI.out).mono ?_
    rintro e w' ⟨rfl, rfl⟩
    go_wp2
    have e3 := E3.out
    have e4 := E4.out
    go_quiet (fail)
    clear e3 e4
    go_wp2
    go_ret
    exact ⟨rfl, H.out.below (below_drewN w nq), grown_to_drewN (grown_same _ _)⟩
  · have hn2 : room - u.live < n := by omega
    have e1 : decide (n < -u.live) = false := by simpa using hn1
    have e2 : decide (room - u.live < n) = true := by simpa using hn2
    clear hn
    go_enter Try.func22, Try.ntmps22
    go_wp2_with fail
    refine (thas_yes H.out i HI.out).mono ?_
    rintro e w' ⟨rfl, rfl⟩
    go_wp2
    have e3 := E3.out
    have e4 := E4.out
    go_quiet (fail)
    clear e3 e4
    go_wp2
    go_ret
    exact ⟨rfl, H.out.below (below_drewN w nq), grown_to_drewN (grown_same _ _)⟩
end Go.Proofs.Ytgakidimipipeaa

namespace Go.Proofs.Ytgakidimipipeaa
open Go.RowKit Go.Sort
set_option linter.unusedVariables false
set_option linter.unusedSimpArgs false
set_option maxRecDepth 100000

theorem enters_in (args : Array Value) (w : World) : (callFunc 116 args).run Try.prog w = .ok (.enter 116 args) w := enters_of Try.func116 (by kernel_rfl) rfl args w
theorem enters_rel (args : Array Value) (w : World) : (callFunc 67 args).run Try.prog w = .ok (.enter 67 args) w := enters_of Try.func67 (by kernel_rfl) rfl args w
def boxI (s : Int) : Obj := .cells #[.int .i64 s] 3
theorem in_is (s : Int) (w : World) : Calls Try.prog 75 #[.int .i64 s] w fun e w' => e = .returned (.func (.func 116) #[] #[.pointer (some ⟨w.heap.size, 0, none⟩)]) ∧ w.alloc (boxI s) = w' := by
  go_enter Try.func75, Try.ntmps75
  go_wp2
  go_ret
  exact ⟨rfl, rfl⟩
theorem in_pred (s : Int) (w : World) (b : Nat) (hb : b < w.heap.size) (hc : w.cell? ⟨b, 0, none⟩ = some (.int .i64 s)) :
    PredV 116 #[.pointer (some ⟨b, 0, none⟩)] (fun u => .agg (useV u).toArray) (fun _ => True) (fun u => u.state == s) w := by
  intro W u _ hB
  have hc' : W.cell? ⟨b, 0, none⟩ = some (.int .i64 s) := (hB.cell (p := ⟨b, 0, none⟩) hb).trans hc
  have hb' : b < W.heap.size := Nat.lt_of_lt_of_le hb hB.size
  clear hB hc hb
  show Calls Try.prog 116 #[.agg #[.int .i64 u.live, .int .i64 u.state, .int .u32 u.age], .pointer (some ⟨b, 0, none⟩)] W _
  go_enter Try.func116, Try.ntmps116
  go_wp2
  go_ret
  exact ⟨rfl, below_box _ _⟩
/-- Dirty, with nothing live. -/
def idleU (u : UseD) : Bool := (u.state == 1) && (u.live == 0)
theorem rel_pred (w : World) : PredV 67 #[] (fun u => .agg (useV u).toArray) (fun _ => True) idleU w := by
  intro W u _ hB
  clear hB
  show Calls Try.prog 67 #[.agg #[.int .i64 u.live, .int .i64 u.state, .int .u32 u.age]] W _
  unfold idleU
  cases h1 : u.state == 1 with
  | true =>
    go_enter Try.func67, Try.ntmps67
    go_wp2
    go_ret
    exact ⟨rfl, below_box _ _⟩
  | false =>
    go_enter Try.func67, Try.ntmps67
    go_wp2
    go_ret
    exact ⟨rfl, below_box _ _⟩
theorem tab_reads {B : Nat} {w : World} {g gs : Nat} {room : Int} {us : List UseD} (h : IsTab B w g gs room us) : ReadsR w (some ⟨gs, 0, none⟩) 3 (usesV us) := by
  obtain ⟨a, c, hv, hr, _, _⟩ := h.2.1.reads
  obtain ⟨rfl, _, _⟩ := Value.slice.inj hv
  exact hr
/-- How many are in a state; the first one. -/
def inL (s : Int) (us : List UseD) : List Nat := placesL (fun u => u.state == s) us us.length
theorem cell_box (w : World) (v : Value) (t : TypeId) : (w.alloc (.cells #[v] t)).cell? ⟨w.heap.size, 0, none⟩ = some v := by
  unfold World.cell?
  rw [heap_alloc_new]
  rfl
/-- Places of those in a state, asked by a closure whose box was just made. -/
theorem places_in {B : Nat} {w : World} {g gs : Nat} {room : Int} {us : List UseD} (h : IsTab B w g gs room us) (s : Int) (W : World) (hW : Below (w.alloc (boxI s)).heap.size (w.alloc (boxI s)) W) :
    Calls Try.prog 66 #[.slice (some ⟨gs, 0, none⟩) us.length us.length, .func (.func 116) #[] #[.pointer (some ⟨w.heap.size, 0, none⟩)]] W (PlacesPost W (fun u => u.state == s) us) :=
  places_use us (some ⟨gs, 0, none⟩) us.length W ((tab_reads h).below ((below_box w _).trans (hW.mono (below_box w (boxI s)).size))) (by have := h.2.2.2.2.2.2.1; omega) (fun _ => True) (fun _ _ => trivial) (fun u => u.state == s) 116 #[.pointer (some ⟨w.heap.size, 0, none⟩)] enters_in
    (in_pred s _ _ (Nat.lt_of_lt_of_le (by simp) hW.size) ((hW.cell (p := ⟨w.heap.size, 0, none⟩) (by simp)).trans (cell_box w _ _)))
theorem below_in {w w' : World} {s : Int} (h : Below (w.alloc (boxI s)).drew.heap.size (w.alloc (boxI s)).drew w') : Below w.heap.size w w' := by
  have h1 := below_box w (boxI s)
  have h2 : Below w.heap.size w (w.alloc (boxI s)).drew := ⟨h1.os, h1.tape, h1.output, h1.size, h1.block⟩
  exact h2.trans (h.mono h2.size)
set_option maxHeartbeats 1600000 in
theorem tclean_is {B : Nat} {w : World} {g gs : Nat} {room : Int} {us : List UseD} (h : IsTab B w g gs room us) :
    Calls Try.prog 32 #[.pointer (some ⟨g, 0, none⟩)] w fun e w' => e = .returned (.int .i64 (inL 0 us).length) ∧ Below w.heap.size w w' := by
  obtain ⟨c0, c1⟩ := tab_facts h
  obtain ⟨l1, l2⟩ := tab_lt h
  have c1' := (tab_facts (h.below (below_box w (boxI 0)))).2
  have HP := Lib.hid (places_in h 0)
  clear h
  unfold inL
  obtain ⟨q, hq⟩ : ∃ q, (placesL (fun u : UseD => u.state == 0) us us.length) = q := ⟨_, rfl⟩
  have HQ := Lib.hid hq
  rw [hq]
  clear hq
  go_enter Try.func32, Try.ntmps32
  go_wp2_with fail
  go_region_held3 (fun w' => w'.cell? ⟨g, 1, none⟩ = some (.slice (some ⟨gs, 0, none⟩) us.length us.length))
    (first | exact c1 | exact c1' | exact c2)
    ((first
      | (go_at_call 75; refine (in_is 0 _).mono ?_; rintro e wi ⟨rfl, rfl⟩)
      | (go_at_call 66; refine (HP.out _ (by first | exact below_drew _ | exact Below.refl _ _)).mono ?_; rintro e wp ⟨v, rfl, ho, hb⟩; have c2 := (hb.cell (p := ⟨g, 1, none⟩) (by simp; omega)).trans c1'; rw [HQ.out] at ho; have hb2 := below_in hb; obtain ⟨ap, cp, rfl, _, _, _⟩ := ho.reads)))
  all_goals (rename_i hHeld; clear hHeld)
  all_goals go_wp2
  all_goals go_ret
  all_goals exact ⟨ret_int (by rw [natV_length]), hb2⟩
/-- How many blocks are live among the first k segments. -/
def liveTo (us : List UseD) (k : Nat) : Int := ((us.take k).map UseD.live).sum
theorem liveTo_succ {us : List UseD} {k : Nat} {u : UseD} (h : us[k]? = some u) : liveTo us (k + 1) = liveTo us k + u.live := by
  unfold liveTo
  rw [List.take_add_one, h]
  simp
theorem liveTo_bound {us : List UseD} {room : Int} (h : TabOk room us) : ∀ k, k ≤ us.length → 0 ≤ liveTo us k ∧ liveTo us k ≤ 4096 * k
  | 0, _ => by unfold liveTo; simp
  | k + 1, hk => by
    have ih := liveTo_bound h k (by omega)
    have hu : us[k]? = some us[k] := List.getElem?_eq_getElem (by omega)
    have ho := h.2.2.2.2 us[k] (List.getElem_mem _)
    rw [liveTo_succ hu]
    have h1 := ho.1
    have h2 := ho.2.1
    have h3 := h.2.1
    omega
set_option maxHeartbeats 1600000 in
theorem tlive_is {B : Nat} {w : World} {g gs : Nat} {room : Int} {us : List UseD} (h : IsTab B w g gs room us) :
    Calls Try.prog 25 #[.pointer (some ⟨g, 0, none⟩)] w fun e w' => e = .returned (.int .i64 (liveTo us us.length)) ∧ Below w.heap.size w w' := by
  obtain ⟨c0, c1⟩ := tab_facts h
  have hlen := h.2.2.2.2.2.2.1
  have hbd := liveTo_bound h.2.2.2
  have HBD := Lib.hid hbd
  have H := Lib.hid h
  obtain ⟨n, hnn⟩ : ∃ n, us.length = n := ⟨_, rfl⟩
  rw [hnn] at c1 hlen ⊢
  have HN := Lib.hid hnn
  clear h hnn hbd
  go_enter Try.func25, Try.ntmps25
  go_wp2
  go_loopw [3, 11] (fun s i wr => ∃ k : Nat, k ≤ n ∧ i = .int .i64 k ∧ s = .int .i64 (liveTo us k) ∧ Hid (Below w.heap.size w wr)) (fun _ i _ => n - (intOf i).toNat)
  case atStart => exact ⟨0, Nat.zero_le _, rfl, rfl, Below.refl _ _⟩
  case round =>
    obtain ⟨k, hk, rfl, rfl, HB⟩ := hrel
    by_cases hlt : k < n
    · obtain ⟨u, hrow⟩ : ∃ r, us[k]? = some r := ⟨_, List.getElem?_eq_getElem (by rw [HN.out]; exact hlt)⟩
      obtain ⟨r0, r1, r2⟩ := tab_row (H.out.below HB.out) hrow
      have hb1 := HBD.out k (by rw [HN.out]; omega)
      have hb2 := HBD.out (k + 1) (by rw [HN.out]; omega)
      have HS : Hid (liveTo us (k + 1) = liveTo us k + u.live) := liveTo_succ hrow
      rw [HS.out] at hb2
      have hx1 : (0 : Int) ≤ (k : Int) := by omega
      have hx2 : (k : Int) < (n : Int) := by omega
      have hy1 : 0 ≤ liveTo us k := hb1.1
      have hy2 : liveTo us k ≤ 1000000 := by omega
      have hy3 : 0 ≤ liveTo us k + u.live := hb2.1
      have hy4 : liveTo us k + u.live ≤ 1000000 := by omega
      clear hrow hb1 hb2
      generalize liveTo us k = z at *
      go_wp2
      go_roundw
      case rel => exact ⟨k + 1, by omega, by go_num, by rw [HS.out], below_next HB.out (below_box _ _)⟩
      case measure => simp [intOf]; omega
    · have hkn : k = n := by omega
      subst hkn
      go_wp2
      go_ret
      exact ⟨rfl, HB.out⟩
theorem uses_rows (us : List UseD) : ∀ p ∈ usesV us, p.length = 3 := by
  intro p hp
  unfold usesV at hp
  rw [List.mem_map] at hp
  obtain ⟨u, _, rfl⟩ := hp
  rfl
theorem uses_one (us : List UseD) : OneRows (usesV us) := by
  intro p hp u hu
  unfold usesV at hp
  rw [List.mem_map] at hp
  obtain ⟨x, _, rfl⟩ := hp
  simp [useV] at hu
  rcases hu with rfl | rfl | rfl <;> rfl
set_option maxHeartbeats 1000000 in
theorem tuses_is {B : Nat} {w : World} {g gs : Nat} {room : Int} {us : List UseD} (h : IsTab B w g gs room us) :
    Calls Try.prog 29 #[.pointer (some ⟨g, 0, none⟩)] w fun e w' => ∃ v, e = .returned v ∧ OwnsR' w.heap.size w' 123 3 v (usesV us) ∧ Below w.heap.size w w' := by
  obtain ⟨c0, c1⟩ := tab_facts h
  have hr := tab_reads h
  have hlen := h.2.2.2.2.2.2.1
  have HR := Lib.hid hr
  have hl := usesV_length us
  rw [← hl] at c1 hlen
  have HONE := Lib.hid (uses_one us)
  clear hr h hl
  obtain ⟨l, hll⟩ : ∃ l, usesV us = l := ⟨_, rfl⟩
  rw [hll] at c1 hlen HR HONE ⊢
  clear hll
  go_enter Try.func29, Try.ntmps29
  go_wp2_with (at_builtin; refine wpList_append_rows' rfl _ _ 63 rfl w.heap.size 123 _ 3 24 Try.underlying63 info_use rfl (by decide) _ [] rfl (OwnsR'.nil _ _ _ _) _ l.length l rfl HR.out HONE.out (by simp; omega) (by unfold maxLen; simp; omega) (Nat.le_refl _) ?_; intro v' w2 ho hg)
  go_ret
  exact ⟨_, rfl, ho, (OwnsR'.nil w.heap.size w 123 3).grown (Below.refl _ _) (Nat.le_refl _) hg⟩
end Go.Proofs.Ytgakidimipipeaa
