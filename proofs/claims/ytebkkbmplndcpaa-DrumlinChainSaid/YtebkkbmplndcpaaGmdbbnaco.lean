/- What one process knows: Put, Known, All, Clone. -/
import Derived.Test.YtebkkbmplndcpaaGononjmjk
namespace Go.Proofs.Ytebkkbmplndcpaa
open Go.RowKit Go.Sort
set_option linter.unusedVariables false
set_option linter.unusedSimpArgs false
set_option maxRecDepth 100000

set_option maxHeartbeats 1600000 in
theorem places_int (l : List Int) (a : Option Addr) (cap : Nat) (w : World) (hr : ReadsV w a l.length (idV l)) (hn : l.length ≤ 100000) (S : Int → Prop) (hS : ∀ r ∈ l, S r) (p : Int → Bool)
    (g : Nat) (lb : Array Value) (eg : ∀ args w, (callFunc g args).run Try.prog w = .ok (.enter g args) w) (hp : PredV g lb (fun b => .int .i64 b) S p w) :
    Calls Try.prog 85 #[.slice a l.length cap, .func (.func g) #[] lb] w (PlacesPost w p l) := by
  have HR := Lib.hid hr
  have HS := Lib.hid hS
  have HP := Lib.hid hp
  clear hr hS hp
  obtain ⟨n, hnn⟩ : ∃ n, l.length = n := ⟨_, rfl⟩
  have HE : Hid (PlacesPost w p l = fun e w' => ∃ v, e = .returned v ∧ OwnsV w.heap.size w' 3 v (natV (placesL p l n)) ∧ Below w.heap.size w w') := by show _ = _; rw [← hnn]; rfl
  rw [hnn] at hn ⊢
  have HN := Lib.hid hnn
  clear hnn
  go_enter Try.func85, Try.ntmps85
  go_wp2
  go_loopw [5, 10] (fun v i wr => ∃ k : Nat, k ≤ n ∧ i = .int .i64 k ∧ Hid (OwnsV w.heap.size wr 3 v (natV (placesL p l k))) ∧ Hid (Below w.heap.size w wr)) (fun _ i _ => n - (intOf i).toNat)
  case atStart => exact ⟨0, Nat.zero_le _, rfl, OwnsV.nil _ _ _, Below.refl _ _⟩
  case round =>
    obtain ⟨k, hk, rfl, HO, HB⟩ := hrel
    by_cases hlt : k < n
    · obtain ⟨u, hrow⟩ : ∃ r, l[k]? = some r := ⟨_, List.getElem?_eq_getElem (by rw [HN.out]; exact hlt)⟩
      have HRS := Lib.hid (HS.out u (List.mem_of_getElem? hrow))
      have HROW := Lib.hid hrow
      obtain ⟨b, off, rfl, hb, hc⟩ := (HR.out.below HB.out).at (i := k) (u := .int .i64 u) (idV_get hrow)
      clear hrow hb
      have hcall := fun W hW => HP.out W u HRS.out hW
      have hsz := HB.out.size
      obtain ⟨B, hB⟩ : ∃ B, w.heap.size = B := ⟨_, rfl⟩
      rw [hB] at hsz
      have hw1 : B ≤ wr.heap.size + 1 := by omega
      have hlen := placesL_length p l k
      have HLen : Hid ((natV (placesL p l k)).length ≤ 100000) := by show _ ≤ _; rw [natV_length]; omega
      clear hlen hB
      cases hpu : p u with
      | true =>
        simp only [hpu] at hcall
        have HNext : Hid (natV (placesL p l (k + 1)) = natV (placesL p l k) ++ [.int .i64 (k : Int)]) := by show _ = _; rw [placesL_yes HROW.out hpu, natV_append]; rfl
        clear hpu
        go_wp2_with (first | (go_at_fn g; refine (hcall _ (HB.out)).mono ?_; rintro e w1 ⟨rfl, b1⟩) | (at_builtin; refine wpList_append_vals rfl _ _ 37 rfl w.heap.size 3 (.int .i64 0) 8 Try.underlying37 info_int rfl _ _ rfl ((HO.out.below b1).alloc _) _ _ _ rfl _ (ReadsV.lit w1 #[.int .i64 (k : Int)] 3) (by intro y hy; simp at hy; subst hy; rfl) (by have := HLen.out; simp; omega) (by have := HLen.out; unfold maxLen; simp; omega) (by have h1 := b1.size; have h2 := HB.out.size; simp; omega) ?_; intro v' w2 ho hg))
        go_roundw
        case rel =>
          refine ⟨k + 1, by omega, by go_num, ?_, ?_⟩
          · show OwnsV _ _ _ _ _
            rw [HNext.out]
            exact ho
          · refine ((HO.out.below b1).alloc _).grown ?_ ?_ hg
            · exact (below_next (HB.out) b1).alloc (by have h1 := b1.size; have h2 := HB.out.size; omega) _
            · have h1 := b1.size; have h2 := HB.out.size; simp; omega
        case measure => simp [intOf]; omega
      | false =>
        simp only [hpu] at hcall
        have HNext : Hid (placesL p l (k + 1) = placesL p l k) := placesL_no HROW.out hpu
        clear hpu
        go_wp2_with (go_at_fn g; refine (hcall _ (HB.out)).mono ?_; rintro e w1 ⟨rfl, b1⟩)
        go_roundw
        case rel =>
          refine ⟨k + 1, by omega, by go_num, ?_, ?_⟩
          · show OwnsV _ _ _ _ _
            rw [HNext.out]
            exact HO.out.below b1
          · exact below_next (HB.out) b1
        case measure => simp [intOf]; omega
    · have hkn : k = n := by omega
      subst hkn
      go_wp2
      go_ret
      rw [HE.out]
      exact ⟨_, rfl, HO.out, HB.out⟩

def noneB (x : Int) : Bool := x == -1
set_option maxHeartbeats 1600000 in
theorem index_none (ids : List Int) (a : Option Addr) (c : Nat) (w : World) (hr : ReadsV w a ids.length (idV ids)) (hl : ids.length ≤ 16) :
    Calls Try.prog 61 #[.slice a ids.length c, .int .i64 (-1)] w fun e w' => e = .returned (.int .i64 (firstI noneB ids)) ∧ w = w' := by
  obtain ⟨n, hn⟩ : ∃ n, ids.length = n := ⟨_, rfl⟩
  obtain ⟨z, hz⟩ : ∃ z, firstI noneB ids = z := ⟨_, rfl⟩
  rw [hn] at hl ⊢
  rw [hz]
  have HN := Lib.hid hn
  have HZ := Lib.hid hz
  have HR := Lib.hid hr
  clear hn hz hr
  go_enter Try.func61, Try.ntmps61
  go_wp2
  go_loopw [8] (fun i wr => ∃ k : Nat, k ≤ n ∧ i = .int .i64 k ∧ Hid (placesL noneB ids k = []) ∧ wr = w) (fun i _ => n - (intOf i).toNat)
  case atStart => exact ⟨0, Nat.zero_le _, rfl, Lib.hid rfl, rfl⟩
  case round =>
    obtain ⟨k, hk, rfl, HP, rfl⟩ := hrel
    by_cases hlt : k < n
    · obtain ⟨x, hx⟩ : ∃ x, ids[k]? = some x := ⟨_, List.getElem?_eq_getElem (by rw [HN.out]; exact hlt)⟩
      obtain ⟨b, off, rfl, hb, hc⟩ := HR.out.at (idV_get hx)
      have hx1 : (0 : Int) ≤ (k : Int) := by omega
      have hx2 : (k : Int) < (n : Int) := by omega
      by_cases h1 : x = -1
      · subst h1
        have HZ2 : Hid (z = k) := by show _ = _; rw [← HZ.out]; exact firstI_hit HP.out hx rfl
        clear hx hb
        go_wp2
        go_ret
        exact ⟨ret_int HZ2.out.symm, rfl⟩
      · have hn1 : noneB x = false := by unfold noneB; simp [h1]
        have HNX := Lib.hid ((placesL_no hx hn1).trans HP.out)
        have hxb : ((-1 : Int) == x) = false := by simp; omega
        have HLT := Lib.hid hlt
        clear hx hb hn1 hlt
        go_wp2
        have h9 := HLT.out
        go_roundw
        case rel => exact ⟨k + 1, HLT.out, by go_num, HNX, by first | trivial | rfl⟩
        case measure => simp [intOf]; omega
    · have hkn : k = n := by omega
      subst hkn
      go_wp2
      go_ret
      refine ⟨ret_int ?_, rfl⟩
      rw [← HZ.out]
      unfold firstI
      rw [HN.out, HP.out]
def putS (ids : List Int) (id : Int) : List Int × Int × Int := if id < 0 then (ids, 0, 1) else if firstI noneB ids < 0 then (ids, 0, 13) else (ids.set (firstI noneB ids).toNat id, firstI noneB ids, 0)
set_option maxHeartbeats 1000000 in
theorem sput_is {B : Nat} {w : World} {g gs cap : Nat} {ids : List Int} (h : IsSet B w g gs cap ids) (id : Int) :
    Calls Try.prog 20 #[.pointer (some ⟨g, 0, none⟩), .int .i64 id] w (SetPost B w g gs cap (putS ids id).1 (.tuple #[.int .i64 (putS ids id).2.1, .int .i64 (putS ids id).2.2])) := by
  have c0 := set_facts h
  have H := Lib.hid h
  have hlen := h.2.2.2.2
  have hix := index_none ids (some ⟨gs, 0, none⟩) cap w (set_reads h) hlen
  by_cases h0 : id < 0
  · have hq : putS ids id = (ids, 0, 1) := by unfold putS; rw [if_pos h0]
    rw [hq]
    clear hix h hq
    go_enter Try.func20, Try.ntmps20
    go_wp2
    go_ret2
    exact ⟨rfl, H.out, grown_same _ _⟩
  · rcases firstF_or noneB ids with ⟨hf, _⟩ | ⟨i, x, hf, hx, _, _⟩
    · have hq : putS ids id = (ids, 0, 13) := by unfold putS; rw [if_neg h0, hf, if_pos (by decide)]
      rw [hq]
      rw [hf] at hix
      have HIX := Lib.hid hix
      clear hix h hq hf
      go_enter Try.func20, Try.ntmps20
      go_wp2_with fail
      refine HIX.out.mono ?_
      rintro e w' ⟨rfl, rfl⟩
      go_wp2
      go_ret2
      exact ⟨rfl, H.out, grown_same _ _⟩
    · have hq : putS ids id = (ids.set i id, (i : Int), 0) := by unfold putS; rw [if_neg h0, hf, if_neg (by omega), Int.toNat_natCast]
      rw [hq]
      rw [hf] at hix
      have HIX := Lib.hid hix
      have c1 := set_cell h hx
      have f1 := set_free h i
      have hst := Lib.hid (set_store h i id)
      have hi := (List.getElem?_eq_some_iff.1 hx).1
      have hi2 : (i : Int) < (ids.length : Int) := by omega
      have hi0 : (0 : Int) ≤ (i : Int) := by omega
      have hi3 : ¬ (i : Int) < 0 := by omega
      clear hix h hq hf hx hi
      go_enter Try.func20, Try.ntmps20
      go_wp2_with fail
      refine HIX.out.mono ?_
      rintro e w' ⟨rfl, rfl⟩
      go_wp2
      go_ret2
      exact ⟨rfl, hst.out.1, hst.out.2⟩
def someB (x : Int) : Bool := !(x == -1)
theorem enters_knownS (args : Array Value) (w : World) : (callFunc 86 args).run Try.prog w = .ok (.enter 86 args) w := enters_of Try.func86 (by kernel_rfl) rfl args w
theorem knownS_pred (w : World) : PredV 86 #[] (fun x => .int .i64 x) (fun _ => True) someB w := by
  intro W x _ hB
  clear hB
  show Calls Try.prog 86 #[.int .i64 x] W _
  unfold someB
  go_enter Try.func86, Try.ntmps86
  go_wp2
  go_ret
  exact ⟨rfl, Below.refl _ _⟩
/-- The fds that are known. -/
def knownL (ids : List Int) : List Nat := placesL someB ids ids.length
theorem sknown_is {B : Nat} {w : World} {g gs cap : Nat} {ids : List Int} (h : IsSet B w g gs cap ids) :
    Calls Try.prog 66 #[.pointer (some ⟨g, 0, none⟩)] w (PlacesPost w someB ids) := by
  have c0 := set_facts h
  have hlen := h.2.2.2.2
  have HPL := Lib.hid (places_int ids (some ⟨gs, 0, none⟩) cap w (set_reads h) (by omega) (fun _ => True) (fun _ _ => trivial) someB 86 #[] enters_knownS (knownS_pred w))
  clear h
  go_enter Try.func66, Try.ntmps66
  go_wp2_with fail
  refine HPL.out.mono ?_
  rintro e w1 ⟨v, rfl, ho, b1⟩
  have HO := Lib.hid ho
  have HB := Lib.hid b1
  clear ho b1
  go_wp2
  go_ret
  exact ⟨v, rfl, HO.out, HB.out⟩
/-- All open files that are known. -/
def allL (ids : List Int) : List Int := (knownL ids).map fun j => ids[j]?.getD 0
theorem allL_length (ids : List Int) : (allL ids).length = (knownL ids).length := by unfold allL; rw [List.length_map]
def mixA (ids : List Int) (L : List Nat) (k : Nat) : List Value := idV ((L.take k).map fun j => ids[j]?.getD 0) ++ natV (L.drop k)
theorem mixA_length (ids : List Int) (L : List Nat) (k : Nat) : (mixA ids L k).length = L.length := by
  unfold mixA
  rw [List.length_append, idV_length, natV_length, List.length_map, List.length_take, List.length_drop]
  omega
theorem mixA_get {ids : List Int} {L : List Nat} {k j : Nat} (h : L[k]? = some j) : (mixA ids L k)[k]? = some (.int .i64 (j : Int)) := by
  have hk := (List.getElem?_eq_some_iff.1 h).1
  unfold mixA
  rw [List.getElem?_append_right (by rw [idV_length, List.length_map, List.length_take]; omega), idV_length, List.length_map, List.length_take, show k - min k L.length = 0 by omega]
  unfold natV
  rw [List.getElem?_map, List.getElem?_drop, Nat.add_zero, h]
  rfl
theorem mixA_set {ids : List Int} {L : List Nat} {k j : Nat} (h : L[k]? = some j) : (mixA ids L k).set k (.int .i64 (ids[j]?.getD 0)) = mixA ids L (k + 1) := by
  have hk := (List.getElem?_eq_some_iff.1 h).1
  have hx := (List.getElem?_eq_some_iff.1 h).2
  unfold mixA
  rw [List.set_append_right _ _ (by rw [idV_length, List.length_map, List.length_take]; omega), idV_length, List.length_map, List.length_take, show k - min k L.length = 0 by omega, List.drop_eq_getElem_cons hk]
  unfold natV idV
  rw [List.map_cons, List.set_cons_zero, List.take_add_one, h]
  simp
theorem placesL_lt {α : Type} (p : α → Bool) (l : List α) (k : Nat) : ∀ x ∈ placesL p l k, x < k := by
  intro x hx
  unfold placesL at hx
  exact List.mem_range.1 (List.mem_filter.1 hx).1
set_option maxHeartbeats 1600000 in
theorem sall_is {B : Nat} {w : World} {g gs cap : Nat} {ids : List Int} (h : IsSet B w g gs cap ids) :
    Calls Try.prog 25 #[.pointer (some ⟨g, 0, none⟩)] w fun e w' => ∃ v, e = .returned v ∧ OwnsV w.heap.size w' 3 v (idV (allL ids)) ∧ Below w.heap.size w w' := by
  have hk := sknown_is h
  have hl := h.2.2.2.2
  have hlen : (knownL ids).length ≤ 16 := Nat.le_trans (placesL_length _ _ _) hl
  have hlt := placesL_lt someB ids ids.length
  obtain ⟨L, hL⟩ : ∃ L, knownL ids = L := ⟨_, rfl⟩
  obtain ⟨n, hn⟩ : ∃ n, L.length = n := ⟨_, rfl⟩
  have HALL : Hid (mixA ids L n = idV (allL ids)) := Lib.hid (by
    unfold mixA allL
    rw [hL, List.take_of_length_le (by omega), List.drop_of_length_le (by omega)]
    simp [natV])
  have HLT : Hid (∀ x ∈ L, x < ids.length) := Lib.hid (by rw [← hL]; exact hlt)
  have HKL : Hid (placesL someB ids ids.length = L) := Lib.hid hL
  rw [hL, hn] at hlen
  have HN := Lib.hid hn
  have H := Lib.hid h
  have HK := Lib.hid hk
  clear h hk hlt hL hn
  go_enter Try.func25, Try.ntmps25
  go_wp2_with fail
  refine HK.out.mono ?_
  rintro e w1 ⟨v, rfl, ho, b1⟩
  rw [HKL.out] at ho
  obtain ⟨a, c, rfl, _, _, _⟩ := ho.reads
  rw [natV_length, HN.out] at ho ⊢
  have e0 : natV L = mixA ids L 0 := by unfold mixA; simp [idV]
  rw [e0] at ho
  have HO := Lib.hid ho
  have HB := Lib.hid b1
  have HW1 : Hid (Below w.heap.size w w1) := Lib.hid b1
  clear ho b1 e0
  go_wp2
  go_loopw [10] (fun i wr => ∃ k : Nat, k ≤ n ∧ i = .int .i64 (k : Int) ∧ Hid (OwnsV w.heap.size wr 3 (.slice a n c) (mixA ids L k)) ∧ Hid (Below w.heap.size w wr)) (fun i _ => n - (intOf i).toNat)
  case atStart => exact ⟨0, Nat.zero_le _, rfl, HO, HB⟩
  case round =>
    obtain ⟨k, hk, rfl, HO, HB⟩ := hrel
    by_cases hkn : k < n
    · obtain ⟨j, hj⟩ : ∃ j, L[k]? = some j := ⟨_, List.getElem?_eq_getElem (by rw [HN.out]; exact hkn)⟩
      have hjl := HLT.out j (List.mem_of_getElem? hj)
      obtain ⟨x, hx⟩ : ∃ x, ids[j]? = some x := ⟨_, List.getElem?_eq_getElem hjl⟩
      have hset := mixA_set (ids := ids) hj
      rw [hx] at hset
      have hml : (mixA ids L k).length = n := by rw [mixA_length, HN.out]
      rcases HO.out.head with ⟨e, e'⟩ | ⟨gk, cap', e, hgk1, hgk2, _, _, hc⟩
      · rw [e'] at hml; simp at hml; omega
      rw [hml] at e
      cases e
      have hst := HO.out.stored hml k (.int .i64 x)
      rw [show (mixA ids L k).set k (.int .i64 x) = mixA ids L (k + 1) from hset] at hst
      have hf := HO.out.frozen hml k
      have c1 := hc k _ (mixA_get hj)
      have hs := H.out.below HB.out
      have c0 := set_facts hs
      have c2 := set_cell hs hx
      have HST := Lib.hid hst
      have hi0 : (0 : Int) ≤ (k : Int) := by omega
      have hi2 : (k : Int) < (n : Int) := by omega
      have hj0 : (0 : Int) ≤ (j : Int) := by omega
      have hj2 : (j : Int) < (ids.length : Int) := by omega
      have HKN := Lib.hid hkn
      have HGK := Lib.hid hgk1
      clear hj hjl hx hset hml hc hst hs hkn hgk1 hgk2
      go_wp2
      have h9 := HKN.out
      go_roundw
      case rel => exact ⟨k + 1, HKN.out, by go_num, Lib.hid HST.out.1, Lib.hid (HB.out.grown HST.out.2 HB.out.size (fun i hi => by obtain rfl := Option.some.inj hi; exact HGK.out))⟩
      case measure => simp [intOf]; omega
    · obtain rfl : k = n := by omega
      have hi2 : ¬ (k : Int) < (k : Int) := by omega
      rw [HALL.out] at HO
      clear hkn hk
      go_wp2
      go_ret
      exact ⟨_, rfl, HO.out, HB.out⟩
set_option maxHeartbeats 1600000 in
theorem clone_ints (a : Option Addr) (n c : Nat) (ids : List Int) (hn : ids.length = n) (h1 : 1 ≤ n) (h2 : n ≤ 16) (w : World) (hr : ReadsV w a n (idV ids)) :
    Calls Try.prog 67 #[.slice a n c] w fun e w' => ∃ gq cq, e = .returned (.slice (some ⟨gq, 0, none⟩) n cq) ∧ OwnsV w.heap.size w' 3 (.slice (some ⟨gq, 0, none⟩) n cq) (idV ids) ∧ Below w.heap.size w w' := by
  have hil : (idV ids).length = n := by rw [idV_length]; exact hn
  obtain ⟨b, off, rfl⟩ : ∃ b off, a = some (⟨b, off, none⟩ : Addr) := by
    obtain ⟨_, h | ⟨b, off, e, _⟩⟩ := hr
    · rw [h] at hil; simp at hil; omega
    · exact ⟨b, off, e⟩
  have HIL := Lib.hid hil
  have HR := Lib.hid hr
  have b1 := below_box w (.cells #[] 3)
  obtain ⟨w1, hw1⟩ : ∃ x, w.alloc (.cells #[] 3) = x := ⟨_, rfl⟩
  obtain ⟨g1, hg1⟩ : ∃ x, w.heap.size = x := ⟨_, rfl⟩
  have o1 : OwnsV w.heap.size w1 3 (.slice (some ⟨g1, 0, none⟩) 0 0) [] := by
    rw [← hw1, ← hg1]
    exact OwnsV.new #[] (Nat.le_refl _) (by unfold maxLen; simp)
  rw [hw1] at b1
  have O1 := Lib.hid o1
  have B1 := Lib.hid b1
  have HR1 := Lib.hid (HR.out.below b1)
  have hnil : ∀ W : World, (binOp .eql 37 (.slice (some ⟨b, off, none⟩) n c) (.slice none 0 0)).run Try.prog W = .ok (.bool false) W := fun _ => rfl
  clear hn hil hr o1 b1
  go_enter Try.func67, Try.ntmps67
  go_wp2_with (at_builtin; refine wpList_append_vals rfl _ _ 37 rfl w.heap.size 3 (.int .i64 0) 8 Try.underlying37 info_int rfl _ [] (by rfl) O1.out _ _ _ (by rfl) (idV ids) HR1.out (idV_one ids) (by simp; omega) (by unfold maxLen; simp; omega) B1.out.size ?_; intro v2 w2 o2 g2)
  go_ret
  rw [List.nil_append] at o2
  rcases o2.head with ⟨e, e'⟩ | ⟨gq, cq, rfl, hq1, hq2, _, _, _⟩
  · have := HIL.out; rw [e'] at this; simp at this; omega
  rw [HIL.out] at o2 ⊢
  exact ⟨gq, cq, rfl, o2, B1.out.grown g2 B1.out.size (fun j hj => (O1.out.lt j hj).1)⟩
theorem sclone_is {B : Nat} {w : World} {g gs cap : Nat} {ids : List Int} (h : IsSet B w g gs cap ids) :
    Calls Try.prog 27 #[.pointer (some ⟨g, 0, none⟩)] w (SNewPost w ids) := by
  have c0 := set_facts h
  have hcl := clone_ints (some ⟨gs, 0, none⟩) ids.length cap ids rfl h.2.2.2.1 h.2.2.2.2 w (set_reads h)
  have HC := Lib.hid hcl
  have HL := Lib.hid h.2.2.2
  clear h hcl
  go_enter Try.func27, Try.ntmps27
  go_wp2_with fail
  refine HC.out.mono ?_
  rintro e w1 ⟨gq, cq, rfl, ho, b1⟩
  have HO := Lib.hid ho
  have HB := Lib.hid b1
  clear ho b1
  go_wp2
  go_ret
  exact ⟨w1.heap.size, gq, cq, rfl, ⟨heap_alloc_new w1 _, HO.out.alloc _, HB.out.size, HL.out⟩, HB.out.alloc HB.out.size _⟩
end Go.Proofs.Ytebkkbmplndcpaa
