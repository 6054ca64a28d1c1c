/- slices.IndexFunc at both tables. -/
import Derived.Test.YtplkglepbedhoaaPick
import Derived.Shelf.Abstract
import Derived.BigQuiet
import Derived.Deep.QuietTactic
namespace Go.Proofs.Ytplkglepbedhoaa
open Go.RowKit Go.Sort
set_option linter.unusedVariables false
set_option linter.unusedSimpArgs false
set_option maxRecDepth 100000

/-- The first place of one that is so. -/
def firstI {α : Type} (p : α → Bool) (l : List α) : Int := match placesL p l l.length with | [] => -1 | i :: _ => (i : Int)
theorem placesL_more {α : Type} (p : α → Bool) (l : List α) (m : Nat) : ∀ n, m ≤ n → ∃ r, placesL p l n = placesL p l m ++ r
  | 0, h => by
    obtain rfl : m = 0 := by omega
    exact ⟨[], by simp⟩
  | n + 1, h => by
    by_cases e : m = n + 1
    · subst e; exact ⟨[], by simp⟩
    · obtain ⟨r, hr⟩ := placesL_more p l m n (by omega)
      cases hx : l[n]? with
      | none =>
        refine ⟨r, ?_⟩
        rw [← hr]
        unfold placesL
        rw [List.range_succ, List.filter_append, List.filter_cons, List.filter_nil, hx]
        simp
      | some x =>
        rw [placesL_succ hx, hr]
        exact ⟨r ++ _, by rw [List.append_assoc]⟩
theorem firstI_hit {α : Type} {p : α → Bool} {l : List α} {k : Nat} {u : α} (h : placesL p l k = []) (hu : l[k]? = some u) (hp : p u = true) : firstI p l = (k : Int) := by
  have h1 := placesL_yes hu hp
  rw [h] at h1
  obtain ⟨r, hr⟩ := placesL_more p l (k + 1) l.length (List.getElem?_eq_some_iff.1 hu).1
  unfold firstI
  rw [hr, h1]
  rfl
set_option maxHeartbeats 1600000 in
theorem index_slot (l : List SlotD) (a : Option Addr) (cap : Nat) (w : World) (hr : ReadsR w a 4 (slotsV l)) (hn : l.length ≤ 100000) (S : SlotD → Prop) (hS : ∀ r ∈ l, S r) (p : SlotD → Bool)
    (g : Nat) (lb : Array Value) (eg : ∀ args w, (callFunc g args).run Try.prog w = .ok (.enter g args) w) (hp : PredV g lb (fun u => .agg (slotV u).toArray) S p w) :
    Calls Try.prog 100 #[.slice a l.length cap, .func (.func g) #[] lb] w fun e w' => e = .returned (.int .i64 (firstI p l)) ∧ Below w.heap.size w w' := by
  have HR := Lib.hid hr
  have HS := Lib.hid hS
  have HP := Lib.hid hp
  clear hr hS hp
  obtain ⟨n, hnn⟩ : ∃ n, l.length = n := ⟨_, rfl⟩
  obtain ⟨z, hz⟩ : ∃ z, firstI p l = z := ⟨_, rfl⟩
  rw [hnn] at hn ⊢
  rw [hz]
  have HZ := Lib.hid hz
  have HN := Lib.hid hnn
  clear hnn hz
  go_enter Try.func100, Try.ntmps100
  go_wp2
  go_loopw [8] (fun i wr => ∃ k : Nat, k ≤ n ∧ i = .int .i64 k ∧ Hid (placesL p l k = []) ∧ Hid (Below w.heap.size w wr)) (fun i _ => n - (intOf i).toNat)
  case atStart => exact ⟨0, Nat.zero_le _, rfl, rfl, Below.refl _ _⟩
  case round =>
    obtain ⟨k, hk, rfl, HO, HB⟩ := hrel
    by_cases hlt : k < n
    · obtain ⟨u, hrow⟩ : ∃ r, l[k]? = some r := ⟨_, List.getElem?_eq_getElem (by rw [HN.out]; exact hlt)⟩
      have HRS := Lib.hid (HS.out u (List.mem_of_getElem? hrow))
      have HROW := Lib.hid hrow
      obtain ⟨b, off, rfl, hb, hc⟩ := (HR.out.below HB.out).row (slotsV_get hrow)
      have c0 : wr.cell? ⟨b, off + k * 4, none⟩ = some (.int .i64 u.place) := hc 0 _ rfl
      have c1 : wr.cell? ⟨b, off + k * 4 + 1, none⟩ = some (.int .u32 u.version) := by have := hc 1 _ rfl; rwa [← Nat.add_assoc] at this
      have c2 : wr.cell? ⟨b, off + k * 4 + 2, none⟩ = some (.int .i64 u.links) := by have := hc 2 _ rfl; rwa [← Nat.add_assoc] at this
      have c3 : wr.cell? ⟨b, off + k * 4 + 3, none⟩ = some (.int .i64 u.kind) := by have := hc 3 _ rfl; rwa [← Nat.add_assoc] at this
      clear hc hrow hb
      have hcall := fun W hW => HP.out W u HRS.out hW
      have hx1 : (0 : Int) ≤ (k : Int) := by omega
      have hx2 : (k : Int) < (n : Int) := by omega
      cases hpu : p u with
      | true =>
        simp only [hpu] at hcall
        have HZ2 : Hid (z = k) := by show _ = _; rw [← HZ.out]; exact firstI_hit HO.out HROW.out hpu
        clear hpu
        go_wp2_with (go_at_fn g; refine (hcall _ HB.out).mono ?_; rintro e w1 ⟨rfl, b1⟩)
        go_ret
        exact ⟨ret_int HZ2.out.symm, below_next HB.out b1⟩
      | false =>
        simp only [hpu] at hcall
        have HNext : Hid (placesL p l (k + 1) = []) := (placesL_no HROW.out hpu).trans HO.out
        clear hpu
        go_wp2_with (go_at_fn g; refine (hcall _ HB.out).mono ?_; rintro e w1 ⟨rfl, b1⟩)
        go_roundw
        case rel => exact ⟨k + 1, by omega, by go_num, HNext, below_next HB.out b1⟩
        case measure => simp [intOf]; omega
    · have hkn : k = n := by omega
      subst hkn
      go_wp2
      go_ret
      refine ⟨ret_int ?_, HB.out⟩
      rw [← HZ.out]
      unfold firstI
      rw [HN.out, HO.out]
end Go.Proofs.Ytplkglepbedhoaa
