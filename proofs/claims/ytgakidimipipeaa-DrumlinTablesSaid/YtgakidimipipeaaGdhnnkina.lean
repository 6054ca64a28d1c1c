/- The program's Release. -/
import Derived.Test.YtgakidimipipeaaGcoipjncb
import Derived.Test.YtgakidimipipeaaGagbfgjfk
namespace Go.Proofs.Ytgakidimipipeaa
open Go.RowKit Go.Sort
set_option linter.unusedVariables false
set_option linter.unusedSimpArgs false
set_option maxRecDepth 100000

def wipe (us : List UseD) (L : List Nat) : List UseD := L.foldl (fun us i => us.set i zeroU) us
theorem wipe_nil (us : List UseD) : wipe us [] = us := rfl
theorem wipe_snoc (us : List UseD) (L : List Nat) (k : Nat) : wipe us (L ++ [k]) = (wipe us L).set k zeroU := by unfold wipe; rw [List.foldl_append]; rfl
theorem wipe_length (us : List UseD) (L : List Nat) : (wipe us L).length = us.length := by
  unfold wipe
  induction L generalizing us with
  | nil => rfl
  | cons a L ih => rw [List.foldl_cons, ih, List.length_set]
theorem wipe_get {us : List UseD} {L : List Nat} {k : Nat} (h : ∀ x ∈ L, x ≠ k) : (wipe us L)[k]? = us[k]? := by
  unfold wipe
  induction L generalizing us with
  | nil => rfl
  | cons a L ih =>
    rw [List.foldl_cons, ih (fun x hx => h x (List.mem_cons_of_mem _ hx)), List.getElem?_set_ne (h a (List.mem_cons_self ..))]
theorem grown_below9 {w w1 w' : World} {row : Option Nat} (b : Below w.heap.size w w1) (h : w1.grownBy w' row) : w.grownBy w' row :=
  ⟨h.os.trans b.os, h.tape.trans b.tape, h.output.trans b.output, Nat.le_trans b.size h.size, fun k hk hne => (h.block k (Nat.lt_of_lt_of_le hk b.size) hne).trans (b.block k hk)⟩
def idleL (us : List UseD) : List Nat := placesL idleU us us.length
theorem placesL_lt {α : Type} (p : α → Bool) (l : List α) (k : Nat) : ∀ x ∈ placesL p l k, x < k := by
  intro x hx
  unfold placesL at hx
  exact List.mem_range.1 (List.mem_filter.1 hx).1
theorem ok_zero {room : Int} (h : 1 ≤ room) : UseOk room zeroU := ⟨by decide, by show (0 : Int) ≤ room; omega, by decide, by decide, by decide, by decide⟩
def RelPost (B : Nat) (w : World) (g gs : Nat) (room : Int) (us : List UseD) (l : List Nat) (e : Ending) (w' : World) : Prop :=
  ∃ a c, e = .returned (.slice a l.length c) ∧ ReadsV w' a l.length (natV l) ∧ l.length ≤ c ∧ IsTab B w' g gs room us ∧ w.grownBy w' (some gs)
set_option maxHeartbeats 2000000 in
theorem trel_is {B : Nat} {w : World} {g gs : Nat} {room : Int} {us : List UseD} (h : IsTab B w g gs room us) :
    Calls Try.prog 27 #[.pointer (some ⟨g, 0, none⟩)] w (RelPost B w g gs room (wipe us (idleL us)) (idleL us)) := by
  obtain ⟨c0, c1⟩ := tab_facts h
  obtain ⟨q1, q2⟩ := tab_lt h
  have hlen := h.2.2.2.2.2.2.1
  have hroom := h.2.2.2.1
  have HPL := Lib.hid (places_use us (some ⟨gs, 0, none⟩) us.length w (tab_reads h) (by omega) (fun _ => True) (fun _ _ => trivial) idleU 67 #[] enters_rel (rel_pred w))
  have hL : ∀ x ∈ idleL us, x < us.length := fun x hx => placesL_lt _ us us.length x hx
  have hlm : (idleL us).length ≤ us.length := placesL_length _ _ _
  obtain ⟨L, hLe⟩ : ∃ L, idleL us = L := ⟨_, rfl⟩
  have HLE : Hid (placesL idleU us us.length = L) := hLe
  rw [hLe] at hL hlm ⊢
  have HL := Lib.hid hL
  have H := Lib.hid h
  have HQ := Lib.hid q2
  obtain ⟨n, hn⟩ : ∃ n, L.length = n := ⟨_, rfl⟩
  have HN := Lib.hid hn
  have HEND : Hid (RelPost B w g gs room (wipe us L) L = fun e w' => ∃ a c, e = .returned (.slice a n c) ∧ ReadsV w' a n (natV L) ∧ n ≤ c ∧ IsTab B w' g gs room (wipe us L) ∧ w.grownBy w' (some gs)) := by
    show _ = _; unfold RelPost; rw [hn]
  rw [hn] at hlm
  rw [HEND.out]
  clear h hLe hL hn HEND q1 q2
  go_enter Try.func27, Try.ntmps27
  go_wp2_with fail
  refine HPL.out.mono ?_
  rintro e w1 ⟨v, rfl, ho, b1⟩
  rw [HLE.out] at ho
  obtain ⟨a, cap, rfl, hr, hcap, _⟩ := ho.reads
  rw [natV_length, HN.out] at ho hcap ⊢
  have HO1 := Lib.hid ho
  have HC := Lib.hid hcap
  have HT1 := Lib.hid (H.out.below b1)
  have HG1 : Hid (w.grownBy w1 (some gs)) := grown_below9 b1 (grown_same _ _)
  clear ho hr b1 hcap c0 c1
  go_wp2
  go_loopw [13] (fun x13 wr => ∃ k : Nat, k ≤ n ∧ x13 = .int .i64 k ∧ Hid (OwnsV w.heap.size wr 3 (.slice a n cap) (natV L)) ∧ Hid (IsTab B wr g gs room (wipe us (L.take k))) ∧ Hid (w.grownBy wr (some gs))) (fun i _ => n - (intOf i).toNat)
  case atStart => exact ⟨0, Nat.zero_le _, rfl, HO1, HT1, HG1⟩
  case round =>
    obtain ⟨k, hk, rfl, HO, HT, HG⟩ := hrel
    by_cases hlt : k < n
    · obtain ⟨x, hrow⟩ : ∃ r, L[k]? = some r := ⟨_, List.getElem?_eq_getElem (by rw [HN.out]; exact hlt)⟩
      have hx200 := HL.out x (List.mem_of_getElem? hrow)
      have hg : ∃ ga, a = some ⟨ga, 0, none⟩ := by
        rcases HO.out.head with ⟨e, _⟩ | ⟨ga, _, e, _⟩
        · obtain ⟨_, e2, _⟩ := Value.slice.inj e
          omega
        · exact ⟨ga, (Value.slice.inj e).1⟩
      obtain ⟨ga, rfl⟩ := hg
      have hga := (HO.out.lt ga rfl).1
      have hcell := HO.out.cell (natV_get hrow)
      have hlw : (wipe us (L.take k)).length = us.length := wipe_length _ _
      obtain ⟨u, hu⟩ : ∃ u, (wipe us (L.take k))[x]? = some u := ⟨_, List.getElem?_eq_getElem (by rw [hlw]; exact hx200)⟩
      obtain ⟨f0, f1⟩ := tab_facts HT.out
      rw [hlw] at f1
      obtain ⟨r0, r1, r2⟩ := tab_row HT.out hu
      have hf := fun j => tab_free HT.out j
      have hf0 := hf (x * 3)
      have hf1 := hf (x * 3 + 1)
      have hf2 := hf (x * 3 + 2)
      have hp := tab_put HT.out hu (ok_zero hroom)
      have hnx : (wipe us (L.take k)).set x zeroU = wipe us (L.take (k + 1)) := by rw [List.take_add_one, hrow]; exact (wipe_snoc us (L.take k) x).symm
      rw [hnx] at hp
      have HP := Lib.hid hp
      have HO2 : Hid (OwnsV w.heap.size (put3 wr gs x zeroU) 3 (.slice (some ⟨ga, 0, none⟩) n cap) (natV L)) := HO.out.kept hp.2 (.inr (by intro e; have e3 : ga = gs := Option.some.inj e; have := HQ.out; omega))
      have HG2 := Lib.hid (grown_trans HG.out hp.2)
      have hx1 : (0 : Int) ≤ (k : Int) := by omega
      have hx2 : (k : Int) < (n : Int) := by omega
      have hx3 : (0 : Int) ≤ (x : Int) := by omega
      have hx4 : (x : Int) < (us.length : Int) := by omega
      clear hp hrow hlw hu hf hnx
      go_wp2
      go_roundw
      case rel => exact ⟨k + 1, by omega, by go_num, HO2, HP.out.1, HG2⟩
      case measure => simp [intOf]; omega
    · have hkn : k = n := by omega
      subst hkn
      have ht := HT.out
      rw [← HN.out, List.take_length] at ht
      have HTT := Lib.hid ht
      obtain ⟨a', c', hv, hr, _, _⟩ := HO.out.reads
      obtain ⟨rfl, _, rfl⟩ := Value.slice.inj hv
      rw [natV_length, HN.out] at hr
      have HR := Lib.hid hr
      clear ht hr hv
      go_wp2
      go_ret
      exact ⟨a, cap, rfl, HR.out, HC.out, HTT.out, HG.out⟩
end Go.Proofs.Ytgakidimipipeaa
