/- The inode map: the list of those used, its count; layer 10's fixed fact. The inode map: may, Set, Load, Slots; the law's Slot, Told; the document's May. -/
import Derived.Test.YtgakidimipipeaaGplgdgmee
import Derived.Test.YtgakidimipipeaaGagbfgjfk
import Derived.Deep.QuietTactic
import Derived.BigQuiet
namespace Go.Proofs.Ytgakidimipipeaa
open Go.RowKit Go.Sort
set_option linter.unusedVariables false
set_option linter.unusedSimpArgs false
set_option maxRecDepth 100000

def incN (L : List Nat) (k : Nat) : List Nat := (L.take k).map (· + 1) ++ L.drop k
theorem incN_length (L : List Nat) (k : Nat) : (incN L k).length = L.length := by
  unfold incN
  rw [List.length_append, List.length_map, List.length_take, List.length_drop]
  omega
theorem incN_zero (L : List Nat) : incN L 0 = L := by unfold incN; simp
theorem incN_full (L : List Nat) : incN L L.length = L.map (· + 1) := by unfold incN; simp
theorem incN_get {L : List Nat} {k x : Nat} (h : L[k]? = some x) : (incN L k)[k]? = some x := by
  have hk := (List.getElem?_eq_some_iff.1 h).1
  unfold incN
  rw [List.getElem?_append_right (by rw [List.length_map, List.length_take]; omega), List.length_map, List.length_take, show k - min k L.length = 0 by omega, List.getElem?_drop]
  exact h
theorem incN_set {L : List Nat} {k x : Nat} (h : L[k]? = some x) : (incN L k).set k (x + 1) = incN L (k + 1) := by
  have hk := (List.getElem?_eq_some_iff.1 h).1
  have hx := (List.getElem?_eq_some_iff.1 h).2
  unfold incN
  rw [List.set_append_right _ _ (by rw [List.length_map, List.length_take]; omega), List.length_map, List.length_take, show k - min k L.length = 0 by omega, List.drop_eq_getElem_cons hk, List.set_cons_zero, List.take_add_one, h]
  simp
theorem natV_set (l : List Nat) (k x : Nat) : (natV l).set k (.int .i64 (x : Int)) = natV (l.set k x) := by unfold natV; rw [List.map_set]
theorem placesL_bound {α : Type} (p : α → Bool) (l : List α) (k : Nat) : ∀ x ∈ placesL p l k, x < k := by
  intro x hx
  unfold placesL at hx
  exact List.mem_range.1 (List.mem_filter.1 hx).1
def usedI (sl : List SlotD) : List Nat := placesL (fun s : SlotD => !(s.kind == 0)) sl sl.length
def ListPost (w : World) (l : List Nat) (e : Ending) (w' : World) : Prop := ∃ a cap, e = .returned (.slice a l.length cap) ∧ OwnsV w.heap.size w' 3 (.slice a l.length cap) (natV l) ∧ Below w.heap.size w w'
set_option maxHeartbeats 1600000 in
theorem mused_list {B : Nat} {w : World} {g gs : Nat} {sl : List SlotD} (h : IsMap B w g gs sl) :
    Calls Try.prog 50 #[.pointer (some ⟨g, 0, none⟩)] w (ListPost w ((usedI sl).map (· + 1))) := by
  have c0 := map_facts h
  have hlen := h.2.2.2.2.1
  have HPL := Lib.hid (places_slot sl (some ⟨gs, 0, none⟩) sl.length w (map_reads h) (by omega) (fun _ => True) (fun _ _ => trivial) (fun s : SlotD => !(s.kind == 0)) 96 #[] enters_used (used_pred w))
  have hL : ∀ x ∈ usedI sl, x < 200 := fun x hx => by have := placesL_bound _ sl sl.length x hx; omega
  obtain ⟨L, hLe⟩ : ∃ L, usedI sl = L := ⟨_, rfl⟩
  have HLE : Hid (placesL (fun s : SlotD => !(s.kind == 0)) sl sl.length = L) := hLe
  rw [hLe] at hL ⊢
  have HL := Lib.hid hL
  clear h hLe hL
  have hlm : L.length ≤ 200 := by rw [← HLE.out]; exact Nat.le_trans (placesL_length _ _ _) hlen
  obtain ⟨n, hn⟩ : ∃ n, L.length = n := ⟨_, rfl⟩
  have HN := Lib.hid hn
  have HEND : Hid (ListPost w (L.map (· + 1)) = fun e w' => ∃ a cap, e = .returned (.slice a n cap) ∧ OwnsV w.heap.size w' 3 (.slice a n cap) (natV (L.map (· + 1))) ∧ Below w.heap.size w w') := by
    show _ = _; unfold ListPost; rw [List.length_map, hn]
  rw [hn] at hlm
  rw [HEND.out]
  clear hn HEND
  go_enter Try.func50, Try.ntmps50
  go_wp2_with fail
  refine HPL.out.mono ?_
  rintro e w1 ⟨v, rfl, ho, b1⟩
  rw [HLE.out] at ho
  obtain ⟨a, cap, rfl, hr, _, _⟩ := ho.reads
  rw [natV_length, HN.out] at ho ⊢
  have HO1 := Lib.hid ho
  have HB1 := Lib.hid b1
  clear ho hr b1
  go_wp2
  go_loopw [12] (fun x12 wr => ∃ k : Nat, k ≤ n ∧ x12 = .int .i64 k ∧ Hid (OwnsV w.heap.size wr 3 (.slice a n cap) (natV (incN L k))) ∧ Hid (Below w.heap.size w wr)) (fun i _ => n - (intOf i).toNat)
  case atStart => exact ⟨0, Nat.zero_le _, rfl, by show OwnsV _ _ _ _ _; rw [incN_zero]; exact HO1.out, HB1.out⟩
  case round =>
    obtain ⟨k, hk, rfl, HO, HB⟩ := hrel
    by_cases hlt : k < n
    · obtain ⟨x, hrow⟩ : ∃ r, L[k]? = some r := ⟨_, List.getElem?_eq_getElem (by rw [HN.out]; exact hlt)⟩
      have hx200 := HL.out x (List.mem_of_getElem? hrow)
      have hln : (natV (incN L k)).length = n := by rw [natV_length, incN_length, HN.out]
      have hg : ∃ ga, a = some ⟨ga, 0, none⟩ := by
        rcases HO.out.head with ⟨e, _⟩ | ⟨ga, _, e, _⟩
        · obtain ⟨_, e2, _⟩ := Value.slice.inj e
          omega
        · exact ⟨ga, (Value.slice.inj e).1⟩
      obtain ⟨ga, rfl⟩ := hg
      have hcell := HO.out.cell (natV_get (incN_get hrow))
      have hfr := HO.out.frozen hln k
      have hst := HO.out.stored hln k (.int .i64 ((x + 1 : Nat) : Int))
      rw [natV_set, incN_set hrow] at hst
      have hw1 : IntKind.i64.wrap ((x : Int) + 1) = ((x + 1 : Nat) : Int) := by rw [Int.natCast_add]; exact IntWalk.i64_in _ (by omega)
      have HST := Lib.hid hst
      have hx1 : (0 : Int) ≤ (k : Int) := by omega
      have hx2 : (k : Int) < (n : Int) := by omega
      clear hst hrow hln
      go_wp2
      go_roundw
      case rel => exact ⟨k + 1, by omega, by go_num, HST.out.1, HO.out.grown HB.out HB.out.size HST.out.2⟩
      case measure => simp [intOf]; omega
    · have hkn : k = n := by omega
      subst hkn
      have ht := HO.out
      rw [← HN.out, incN_full, HN.out] at ht
      have HTT := Lib.hid ht
      clear ht
      go_wp2
      go_ret
      exact ⟨a, cap, rfl, HTT.out, HB.out⟩
theorem mcount_is {B : Nat} {w : World} {g gs : Nat} {sl : List SlotD} (h : IsMap B w g gs sl) :
    Calls Try.prog 26 #[.pointer (some ⟨g, 0, none⟩)] w fun e w' => e = .returned (.int .i64 ((usedI sl).length : Int)) ∧ Below w.heap.size w w' := by
  have H := Lib.hid h
  clear h
  go_enter Try.func26, Try.ntmps26
  go_wp2_with fail
  refine (mused_list H.out).mono ?_
  rintro e w1 ⟨a, cap, rfl, ho, hb⟩
  rw [List.length_map]
  have HB := Lib.hid hb
  clear ho hb
  go_wp2
  go_ret
  exact ⟨rfl, HB.out⟩
def map0 : List SlotD := [zeroS, zeroS]
def map1 : List SlotD := [⟨0, 1, 0, 1⟩, zeroS]
set_option maxHeartbeats 2000000 in
theorem awake10_true (w : World) : Calls Try.prog 8 #[] w fun e w' => e = .returned (.bool true) ∧ Below w.heap.size w w' := by
  have h1 : ((usedI map1).length : Int) = 1 := by decide
  have H1 := Lib.hid h1
  clear h1
  go_enter Try.func8, Try.ntmps8
  go_wp2_with fail
  refine (mnew_is 2 w 2 (by decide)).mono ?_
  rintro e w1 ⟨g, gs, rfl, t1, b1⟩
  have T1 : Hid (IsMap w.heap.size w1 g gs map0) := t1
  have B1 := Lib.hid b1
  clear t1 b1
  go_wp2_with fail
  refine (malloc_yes T1.out 0 zeroS rfl (by decide) 1 (by decide) (by decide)).mono ?_
  rintro e w2 ⟨rfl, t2, g2⟩
  have T2 : Hid (IsMap w.heap.size w2 g gs map1) := t2
  have B2 : Hid (Below w.heap.size w w2) := T1.out.2.1.grown B1.out B1.out.size g2
  rw [show nextV zeroS.version = 1 by decide, show ((0 : Nat) : Int) + 1 = 1 by decide]
  clear t2 g2 T1 B1
  go_wp2_with fail
  refine (malloc_bad 0 (by decide)).mono ?_
  rintro e w3 ⟨rfl, rfl⟩
  go_wp2_with fail
  refine (mcount_is T2.out).mono ?_
  rintro e w3 ⟨rfl, b3⟩
  rw [H1.out]
  go_wp2
  go_ret
  exact ⟨rfl, below_next B2.out b3⟩
end Go.Proofs.Ytgakidimipipeaa

namespace Go.Proofs.Ytgakidimipipeaa
open Go.RowKit Go.Sort
set_option linter.unusedVariables false
set_option linter.unusedSimpArgs false
set_option maxRecDepth 100000

def inB (n a b : Int) : Bool := decide (a ≤ n) && decide (n ≤ b)
/-- A slot that may be. -/
def mayS (s : SlotD) : Bool := inB s.place 0 65535 && inB s.links 0 65535 && inB s.kind 0 2
theorem amongM_is (n a b : Int) (w : World) : Calls Try.prog 55 #[.int .i64 n, .int .i64 a, .int .i64 b] w fun e w' => e = .returned (.bool (inB n a b)) ∧ w = w' := by
  unfold inB
  by_cases h : a ≤ n ∧ n ≤ b
  · rw [decide_eq_true h.1, decide_eq_true h.2]
    exact among_yes n a b w h.1 h.2
  · have e : (decide (a ≤ n) && decide (n ≤ b)) = false := by
      by_cases h1 : a ≤ n
      · rw [decide_eq_true h1, decide_eq_false (fun h2 => h ⟨h1, h2⟩)]; rfl
      · rw [decide_eq_false h1]; rfl
    rw [e]
    exact among_no n a b w (by omega)
theorem mayS_ok {s : SlotD} (h : mayS s = true) (hv : 0 ≤ s.version ∧ s.version < 4294967296) : SlotOk s := by
  unfold mayS inB at h
  simp only [Bool.and_eq_true, decide_eq_true_eq] at h
  unfold SlotOk
  omega
theorem box4_cells (w : World) (s : SlotD) (t : TypeId) : (w.alloc (.cells #[.int .i64 s.place, .int .u32 s.version, .int .i64 s.links, .int .i64 s.kind] t)).cell? ⟨w.heap.size, 0, none⟩ = some (.int .i64 s.place) ∧ (w.alloc (.cells #[.int .i64 s.place, .int .u32 s.version, .int .i64 s.links, .int .i64 s.kind] t)).cell? ⟨w.heap.size, 1, none⟩ = some (.int .u32 s.version) ∧ (w.alloc (.cells #[.int .i64 s.place, .int .u32 s.version, .int .i64 s.links, .int .i64 s.kind] t)).cell? ⟨w.heap.size, 2, none⟩ = some (.int .i64 s.links) ∧ (w.alloc (.cells #[.int .i64 s.place, .int .u32 s.version, .int .i64 s.links, .int .i64 s.kind] t)).cell? ⟨w.heap.size, 3, none⟩ = some (.int .i64 s.kind) := by
  have h := heap_alloc_new w (.cells #[.int .i64 s.place, .int .u32 s.version, .int .i64 s.links, .int .i64 s.kind] t)
  refine ⟨?_, ?_, ?_, ?_⟩ <;> (unfold World.cell?; rw [h]; rfl)
set_option maxHeartbeats 1000000 in
theorem may_is4 (s : SlotD) (w : World) : Calls Try.prog 62 #[.agg #[.int .i64 s.place, .int .u32 s.version, .int .i64 s.links, .int .i64 s.kind]] w fun e w' => e = .returned (.bool (mayS s)) ∧ Below w.heap.size w w' := by
  have hb := below_box w (.cells #[.int .i64 s.place, .int .u32 s.version, .int .i64 s.links, .int .i64 s.kind] 28)
  obtain ⟨c0, c1, c2, c3⟩ := box4_cells w s 28
  obtain ⟨w1, hw1⟩ : ∃ x, w.alloc (.cells #[.int .i64 s.place, .int .u32 s.version, .int .i64 s.links, .int .i64 s.kind] 28) = x := ⟨_, rfl⟩
  rw [hw1] at hb c0 c1 c2 c3
  have HB := Lib.hid hb
  have HA := Lib.hid (fun n b => amongM_is n 0 b w1)
  unfold mayS
  obtain ⟨x, hx⟩ : ∃ x, inB s.place 0 65535 = x := ⟨_, rfl⟩
  obtain ⟨y, hy⟩ : ∃ y, inB s.links 0 65535 = y := ⟨_, rfl⟩
  obtain ⟨z, hz⟩ : ∃ z, inB s.kind 0 2 = z := ⟨_, rfl⟩
  rw [hx, hy, hz]
  have HX := Lib.hid hx
  have HY := Lib.hid hy
  have HZ := Lib.hid hz
  clear hx hy hz hb
  cases x with
  | false =>
    go_enter Try.func62, Try.ntmps62
    go_wp2_with fail
    refine (HA.out s.place 65535).mono ?_
    rintro e w' ⟨rfl, rfl⟩
    rw [HX.out]
    go_wp2
    go_ret
    exact ⟨by simp, HB.out⟩
  | true =>
    cases y with
    | false =>
      go_enter Try.func62, Try.ntmps62
      go_wp2_with fail
      refine (HA.out s.place 65535).mono ?_
      rintro e w' ⟨rfl, rfl⟩
      rw [HX.out]
      go_wp2_with fail
      refine (HA.out s.links 65535).mono ?_
      rintro e w' ⟨rfl, rfl⟩
      rw [HY.out]
      go_wp2
      go_ret
      exact ⟨by simp, HB.out⟩
    | true =>
      go_enter Try.func62, Try.ntmps62
      go_wp2_with fail
      refine (HA.out s.place 65535).mono ?_
      rintro e w' ⟨rfl, rfl⟩
      rw [HX.out]
      go_wp2_with fail
      refine (HA.out s.links 65535).mono ?_
      rintro e w' ⟨rfl, rfl⟩
      rw [HY.out]
      go_wp2_with fail
      refine (HA.out s.kind 2).mono ?_
      rintro e w' ⟨rfl, rfl⟩
      rw [HZ.out]
      go_wp2
      go_ret
      exact ⟨by simp, HB.out⟩
set_option maxHeartbeats 2000000 in
theorem mset_yes {B : Nat} {w : World} {g gs : Nat} {sl : List SlotD} (h : IsMap B w g gs sl) (i : Nat) (s s' : SlotD) (hu : sl[i]? = some s) (hm : mayS s' = true) (hv : 0 ≤ s'.version ∧ s'.version < 4294967296) :
    Calls Try.prog 21 #[.pointer (some ⟨g, 0, none⟩), .int .i64 ((i : Int) + 1), .agg #[.int .i64 s'.place, .int .u32 s'.version, .int .i64 s'.links, .int .i64 s'.kind]] w (MapPost B w g gs (sl.set i s') (.int .i64 0)) := by
  have b1 := below_box w (.cells #[.int .i64 s'.place, .int .u32 s'.version, .int .i64 s'.links, .int .i64 s'.kind] 28)
  obtain ⟨d0, d1, d2, d3⟩ := box4_cells w s' 28
  have hw0 : w.heap.size < (w.alloc (.cells #[.int .i64 s'.place, .int .u32 s'.version, .int .i64 s'.links, .int .i64 s'.kind] 28)).heap.size := by simp
  obtain ⟨w1, hw1⟩ : ∃ x, w.alloc (.cells #[.int .i64 s'.place, .int .u32 s'.version, .int .i64 s'.links, .int .i64 s'.kind] 28) = x := ⟨_, rfl⟩
  rw [hw1] at b1 d0 d1 d2 d3 hw0
  have h1 := h.below b1
  have hi := (List.getElem?_eq_some_iff.1 hu).1
  have hlen := h.2.2.2.2.1
  have H1 := Lib.hid h1
  have HU := Lib.hid hu
  have HI := Lib.hid hi
  have HB1 := Lib.hid b1
  have HM := Lib.hid (may_is4 s' w1)
  rw [hm] at HM
  have D := Lib.hid (fun (W : World) (hW : Below w1.heap.size w1 W) => (⟨(hW.cell (p := ⟨w.heap.size, 0, none⟩) hw0).trans d0, (hW.cell (p := ⟨w.heap.size, 1, none⟩) hw0).trans d1, (hW.cell (p := ⟨w.heap.size, 2, none⟩) hw0).trans d2, (hW.cell (p := ⟨w.heap.size, 3, none⟩) hw0).trans d3⟩ : W.cell? ⟨w.heap.size, 0, none⟩ = some (.int .i64 s'.place) ∧ W.cell? ⟨w.heap.size, 1, none⟩ = some (.int .u32 s'.version) ∧ W.cell? ⟨w.heap.size, 2, none⟩ = some (.int .i64 s'.links) ∧ W.cell? ⟨w.heap.size, 3, none⟩ = some (.int .i64 s'.kind)))
  have HOK := Lib.hid (mayS_ok hm hv)
  have hi2 : (i : Int) < (sl.length : Int) := by omega
  have hi0 : (0 : Int) ≤ (i : Int) := by omega
  have s1 : IntKind.i64.wrap ((i : Int) + 1 - 1) = (i : Int) := by rw [IntWalk.i64_in _ (by omega)]; omega
  have s2 : (i : Int) + 1 - 1 = (i : Int) := by omega
  clear h h1 hu hi b1 hm hv hw0
  go_enter Try.func21, Try.ntmps21
  go_wp2_with fail
  clear hw1
  refine (mhas_yes H1.out i HI.out).mono ?_
  rintro e w' ⟨rfl, rfl⟩
  go_wp2_with fail
  refine HM.out.mono ?_
  rintro e w2 ⟨rfl, b2⟩
  have h2 := H1.out.below b2
  have HB2 := Lib.hid (below_next HB1.out b2)
  obtain ⟨e0, e1, e2, e3⟩ := D.out w2 b2
  have c1 := map_facts h2
  obtain ⟨r0, r1, r2, r3⟩ := map_row h2 HU.out
  have f0 := map_free h2 (i * 4)
  have f1 := map_free h2 (i * 4 + 1)
  have f2 := map_free h2 (i * 4 + 2)
  have f3 := map_free h2 (i * 4 + 3)
  have hmp := map_put h2 HU.out HOK.out
  have HNEW := Lib.hid (hmp.1.below (below_drew _))
  have HGR := Lib.hid hmp.2
  obtain ⟨W2, hW2⟩ : ∃ W2, W2 = (put4 w2 gs i s').drew := ⟨_, rfl⟩
  rw [← hW2] at HNEW
  have HGR2 : Hid (w2.grownBy W2 (some gs)) := by rw [hW2]; exact Lib.hid (grown_to_drew HGR.out)
  simp only [put4] at hW2
  clear d0 d1 d2 d3 b2 h2 hmp HGR
  go_wp2
  go_region
  rw [← hW2]
  clear hW2 c1 r0 r1 r2 r3 f0 f1 f2 f3 e0 e1 e2 e3
  go_wp2
  go_ret
  exact ⟨rfl, HNEW.out, grown_below HB2.out HGR2.out⟩
set_option maxHeartbeats 1000000 in
theorem mset_no {B : Nat} {w : World} {g gs : Nat} {sl : List SlotD} (h : IsMap B w g gs sl) (i : Nat) (hi : i < sl.length) (s' : SlotD) (hm : mayS s' = false) :
    Calls Try.prog 21 #[.pointer (some ⟨g, 0, none⟩), .int .i64 ((i : Int) + 1), .agg #[.int .i64 s'.place, .int .u32 s'.version, .int .i64 s'.links, .int .i64 s'.kind]] w fun e w' => e = .returned (.int .i64 1) ∧ Below w.heap.size w w' := by
  have b1 := below_box w (.cells #[.int .i64 s'.place, .int .u32 s'.version, .int .i64 s'.links, .int .i64 s'.kind] 28)
  obtain ⟨d0, d1, d2, d3⟩ := box4_cells w s' 28
  obtain ⟨w1, hw1⟩ : ∃ x, w.alloc (.cells #[.int .i64 s'.place, .int .u32 s'.version, .int .i64 s'.links, .int .i64 s'.kind] 28) = x := ⟨_, rfl⟩
  rw [hw1] at b1 d0 d1 d2 d3
  have H1 := Lib.hid (h.below b1)
  have HI := Lib.hid hi
  have HB1 := Lib.hid b1
  have HM := Lib.hid (may_is4 s' w1)
  rw [hm] at HM
  clear h hi b1 hm
  go_enter Try.func21, Try.ntmps21
  go_wp2_with fail
  clear hw1
  refine (mhas_yes H1.out i HI.out).mono ?_
  rintro e w' ⟨rfl, rfl⟩
  go_wp2_with fail
  refine HM.out.mono ?_
  rintro e w2 ⟨rfl, b2⟩
  go_wp2
  go_ret
  exact ⟨rfl, below_next HB1.out b2⟩
end Go.Proofs.Ytgakidimipipeaa
