/- The inode map: the list of those used, its count; layer 10's fixed fact. -/
import Derived.Test.YtpmfkamagdifgaaMap2
import Derived.Test.YtpmfkamagdifgaaRRank
namespace Go.Proofs.Ytpmfkamagdifgaa
open Go.RowKit Go.Sort
set_option linter.unusedVariables false
set_option linter.unusedSimpArgs false
set_option maxRecDepth 100000

def incN (L : List Nat) (k : Nat) : List Nat := (L.take k).map (· + 1) ++ L.drop k
theorem incN_length (L : List Nat) (k : Nat) : (incN L k).length = L.length := by
  unfold incN
  rw [List.length_append, List.length_map, List.length_take, List.length_drop]
  omega
theorem incN_zero (L : List Nat) : incN L 0 = L := by unfold incN; simp
theorem incN_full (L : List Nat) : incN L L.length = L.map (· + 1) := by unfold incN; simp
theorem incN_get {L : List Nat} {k x : Nat} (h : L[k]? = some x) : (incN L k)[k]? = some x := by
  have hk := (List.getElem?_eq_some_iff.1 h).1
  unfold incN
  rw [List.getElem?_append_right (by rw [List.length_map, List.length_take]; omega), List.length_map, List.length_take, show k - min k L.length = 0 by omega, List.getElem?_drop]
  exact h
theorem incN_set {L : List Nat} {k x : Nat} (h : L[k]? = some x) : (incN L k).set k (x + 1) = incN L (k + 1) := by
  have hk := (List.getElem?_eq_some_iff.1 h).1
  have hx := (List.getElem?_eq_some_iff.1 h).2
  unfold incN
  rw [List.set_append_right _ _ (by rw [List.length_map, List.length_take]; omega), List.length_map, List.length_take, show k - min k L.length = 0 by omega, List.drop_eq_getElem_cons hk, List.set_cons_zero, List.take_add_one, h]
  simp
theorem natV_set (l : List Nat) (k x : Nat) : (natV l).set k (.int .i64 (x : Int)) = natV (l.set k x) := by unfold natV; rw [List.map_set]
theorem placesL_bound {α : Type} (p : α → Bool) (l : List α) (k : Nat) : ∀ x ∈ placesL p l k, x < k := by
  intro x hx
  unfold placesL at hx
  exact List.mem_range.1 (List.mem_filter.1 hx).1
def usedI (sl : List SlotD) : List Nat := placesL (fun s : SlotD => !(s.kind == 0)) sl sl.length
def ListPost (w : World) (l : List Nat) (e : Ending) (w' : World) : Prop := ∃ a cap, e = .returned (.slice a l.length cap) ∧ OwnsV w.heap.size w' 3 (.slice a l.length cap) (natV l) ∧ Below w.heap.size w w'
set_option maxHeartbeats 1600000 in
theorem mused_list {B : Nat} {w : World} {g gs : Nat} {sl : List SlotD} (h : IsMap B w g gs sl) :
    Calls Try.prog 118 #[.pointer (some ⟨g, 0, none⟩)] w (ListPost w ((usedI sl).map (· + 1))) := by
  have c0 := map_facts h
  have hlen := h.2.2.2.2.1
  have HPL := Lib.hid (places_slot sl (some ⟨gs, 0, none⟩) sl.length w (map_reads h) (by omega) (fun _ => True) (fun _ _ => trivial) (fun s : SlotD => !(s.kind == 0)) 201 #[] enters_used (used_pred w))
  have hL : ∀ x ∈ usedI sl, x < 200 := fun x hx => by have := placesL_bound _ sl sl.length x hx; omega
  obtain ⟨L, hLe⟩ : ∃ L, usedI sl = L := ⟨_, rfl⟩
  have HLE : Hid (placesL (fun s : SlotD => !(s.kind == 0)) sl sl.length = L) := hLe
  rw [hLe] at hL ⊢
  have HL := Lib.hid hL
  clear h hLe hL
  have hlm : L.length ≤ 200 := by rw [← HLE.out]; exact Nat.le_trans (placesL_length _ _ _) hlen
  obtain ⟨n, hn⟩ : ∃ n, L.length = n := ⟨_, rfl⟩
  have HN := Lib.hid hn
  have HEND : Hid (ListPost w (L.map (· + 1)) = fun e w' => ∃ a cap, e = .returned (.slice a n cap) ∧ OwnsV w.heap.size w' 3 (.slice a n cap) (natV (L.map (· + 1))) ∧ Below w.heap.size w w') := by
    show _ = _; unfold ListPost; rw [List.length_map, hn]
  rw [hn] at hlm
  rw [HEND.out]
  clear hn HEND
  go_enter Try.func118, Try.ntmps118
  go_wp2_with fail
  refine HPL.out.mono ?_
  rintro e w1 ⟨v, rfl, ho, b1⟩
  rw [HLE.out] at ho
  obtain ⟨a, cap, rfl, hr, _, _⟩ := ho.reads
  rw [natV_length, HN.out] at ho ⊢
  have HO1 := Lib.hid ho
  have HB1 := Lib.hid b1
  clear ho hr b1
  go_wp2
  go_loopw [12] (fun x12 wr => ∃ k : Nat, k ≤ n ∧ x12 = .int .i64 k ∧ Hid (OwnsV w.heap.size wr 3 (.slice a n cap) (natV (incN L k))) ∧ Hid (Below w.heap.size w wr)) (fun i _ => n - (intOf i).toNat)
  case atStart => exact ⟨0, Nat.zero_le _, rfl, by show OwnsV _ _ _ _ _; rw [incN_zero]; exact HO1.out, HB1.out⟩
  case round =>
    obtain ⟨k, hk, rfl, HO, HB⟩ := hrel
    by_cases hlt : k < n
    · obtain ⟨x, hrow⟩ : ∃ r, L[k]? = some r := ⟨_, List.getElem?_eq_getElem (by rw [HN.out]; exact hlt)⟩
      have hx200 := HL.out x (List.mem_of_getElem? hrow)
      have hln : (natV (incN L k)).length = n := by rw [natV_length, incN_length, HN.out]
      have hg : ∃ ga, a = some ⟨ga, 0, none⟩ := by
        rcases HO.out.head with ⟨e, _⟩ | ⟨ga, _, e, _⟩
        · obtain ⟨_, e2, _⟩ := Value.slice.inj e
          omega
        · exact ⟨ga, (Value.slice.inj e).1⟩
      obtain ⟨ga, rfl⟩ := hg
      have hcell := HO.out.cell (natV_get (incN_get hrow))
      have hfr := HO.out.frozen hln k
      have hst := HO.out.stored hln k (.int .i64 ((x + 1 : Nat) : Int))
      rw [natV_set, incN_set hrow] at hst
      have hw1 : IntKind.i64.wrap ((x : Int) + 1) = ((x + 1 : Nat) : Int) := by rw [Int.natCast_add]; exact IntWalk.i64_in _ (by omega)
      have HST := Lib.hid hst
      have hx1 : (0 : Int) ≤ (k : Int) := by omega
      have hx2 : (k : Int) < (n : Int) := by omega
      clear hst hrow hln
      go_wp2
      go_roundw
      case rel => exact ⟨k + 1, by omega, by go_num, HST.out.1, HO.out.grown HB.out HB.out.size HST.out.2⟩
      case measure => simp [intOf]; omega
    · have hkn : k = n := by omega
      subst hkn
      have ht := HO.out
      rw [← HN.out, incN_full, HN.out] at ht
      have HTT := Lib.hid ht
      clear ht
      go_wp2
      go_ret
      exact ⟨a, cap, rfl, HTT.out, HB.out⟩
theorem mcount_is {B : Nat} {w : World} {g gs : Nat} {sl : List SlotD} (h : IsMap B w g gs sl) :
    Calls Try.prog 42 #[.pointer (some ⟨g, 0, none⟩)] w fun e w' => e = .returned (.int .i64 ((usedI sl).length : Int)) ∧ Below w.heap.size w w' := by
  have H := Lib.hid h
  clear h
  go_enter Try.func42, Try.ntmps42
  go_wp2_with fail
  refine (mused_list H.out).mono ?_
  rintro e w1 ⟨a, cap, rfl, ho, hb⟩
  rw [List.length_map]
  have HB := Lib.hid hb
  clear ho hb
  go_wp2
  go_ret
  exact ⟨rfl, HB.out⟩
def map0 : List SlotD := [zeroS, zeroS]
def map1 : List SlotD := [⟨0, 1, 0, 1⟩, zeroS]
set_option maxHeartbeats 2000000 in
theorem awake10_true (w : World) : Calls Try.prog 38 #[] w fun e w' => e = .returned (.bool true) ∧ Below w.heap.size w w' := by
  have h1 : ((usedI map1).length : Int) = 1 := by decide
  have H1 := Lib.hid h1
  clear h1
  go_enter Try.func38, Try.ntmps38
  go_wp2_with fail
  refine (mnew_is 2 w 2 (by decide)).mono ?_
  rintro e w1 ⟨g, gs, rfl, t1, b1⟩
  have T1 : Hid (IsMap w.heap.size w1 g gs map0) := t1
  have B1 := Lib.hid b1
  clear t1 b1
  go_wp2_with fail
  refine (malloc_yes T1.out 0 zeroS rfl (by decide) 1 (by decide) (by decide)).mono ?_
  rintro e w2 ⟨rfl, t2, g2⟩
  have T2 : Hid (IsMap w.heap.size w2 g gs map1) := t2
  have B2 : Hid (Below w.heap.size w w2) := T1.out.2.1.grown B1.out B1.out.size g2
  rw [show nextV zeroS.version = 1 by decide, show ((0 : Nat) : Int) + 1 = 1 by decide]
  clear t2 g2 T1 B1
  go_wp2_with fail
  refine (malloc_bad 0 (by decide)).mono ?_
  rintro e w3 ⟨rfl, rfl⟩
  go_wp2_with fail
  refine (mcount_is T2.out).mono ?_
  rintro e w3 ⟨rfl, b3⟩
  rw [H1.out]
  go_wp2
  go_ret
  exact ⟨rfl, below_next B2.out b3⟩
end Go.Proofs.Ytpmfkamagdifgaa
