/- pick.Places at the slots of the inode map, and at floats; slices.IndexFunc at both tables. -/
import Derived.Test.YtplkglepbedhoaaPick
import Derived.Shelf.Abstract
import Derived.BigQuiet
import Derived.Deep.QuietTactic
namespace Go.Proofs.Ytplkglepbedhoaa
open Go.RowKit Go.Sort
set_option linter.unusedVariables false
set_option linter.unusedSimpArgs false
set_option maxRecDepth 100000

set_option maxHeartbeats 1600000 in
theorem places_slot (l : List SlotD) (a : Option Addr) (cap : Nat) (w : World) (hr : ReadsR w a 4 (slotsV l)) (hn : l.length ≤ 100000) (S : SlotD → Prop) (hS : ∀ r ∈ l, S r) (p : SlotD → Bool)
    (g : Nat) (lb : Array Value) (eg : ∀ args w, (callFunc g args).run Try.prog w = .ok (.enter g args) w) (hp : PredV g lb (fun u => .agg (slotV u).toArray) S p w) :
    Calls Try.prog 169 #[.slice a l.length cap, .func (.func g) #[] lb] w (PlacesPost w p l) := by
  have HR := Lib.hid hr
  have HS := Lib.hid hS
  have HP := Lib.hid hp
  clear hr hS hp
  obtain ⟨n, hnn⟩ : ∃ n, l.length = n := ⟨_, rfl⟩
  have HE : Hid (PlacesPost w p l = fun e w' => ∃ v, e = .returned v ∧ OwnsV w.heap.size w' 3 v (natV (placesL p l n)) ∧ Below w.heap.size w w') := by show _ = _; rw [← hnn]; rfl
  rw [hnn] at hn ⊢
  have HN := Lib.hid hnn
  clear hnn
  go_enter Try.func169, Try.ntmps169
  go_wp2
  go_loopw [5, 10] (fun v i wr => ∃ k : Nat, k ≤ n ∧ i = .int .i64 k ∧ Hid (OwnsV w.heap.size wr 3 v (natV (placesL p l k))) ∧ Hid (Below w.heap.size w wr)) (fun _ i _ => n - (intOf i).toNat)
  case atStart => exact ⟨0, Nat.zero_le _, rfl, OwnsV.nil _ _ _, Below.refl _ _⟩
  case round =>
    obtain ⟨k, hk, rfl, HO, HB⟩ := hrel
    by_cases hlt : k < n
    · obtain ⟨u, hrow⟩ : ∃ r, l[k]? = some r := ⟨_, List.getElem?_eq_getElem (by rw [HN.out]; exact hlt)⟩
      have HRS := Lib.hid (HS.out u (List.mem_of_getElem? hrow))
      have HROW := Lib.hid hrow
      obtain ⟨b, off, rfl, hb, hc⟩ := (HR.out.below HB.out).row (slotsV_get hrow)
      have c0 : wr.cell? ⟨b, off + k * 4, none⟩ = some (.int .i64 u.place) := hc 0 _ rfl
      have c1 : wr.cell? ⟨b, off + k * 4 + 1, none⟩ = some (.int .u32 u.version) := by have := hc 1 _ rfl; rwa [← Nat.add_assoc] at this
      have c2 : wr.cell? ⟨b, off + k * 4 + 2, none⟩ = some (.int .i64 u.links) := by have := hc 2 _ rfl; rwa [← Nat.add_assoc] at this
      have c3 : wr.cell? ⟨b, off + k * 4 + 3, none⟩ = some (.int .i64 u.kind) := by have := hc 3 _ rfl; rwa [← Nat.add_assoc] at this
      clear hc hrow hb
      have hcall := fun W hW => HP.out W u HRS.out hW
      have hsz := HB.out.size
      obtain ⟨B, hB⟩ : ∃ B, w.heap.size = B := ⟨_, rfl⟩
      rw [hB] at hsz
      have hw1 : B ≤ wr.heap.size + 1 := by omega
      have hlen := placesL_length p l k
      have HLen : Hid ((natV (placesL p l k)).length ≤ 100000) := by show _ ≤ _; rw [natV_length]; omega
      clear hlen hB
      cases hpu : p u with
      | true =>
        simp only [hpu] at hcall
        have HNext : Hid (natV (placesL p l (k + 1)) = natV (placesL p l k) ++ [.int .i64 (k : Int)]) := by show _ = _; rw [placesL_yes HROW.out hpu, natV_append]; rfl
        clear hpu
        go_wp2_with (first | (go_at_fn g; refine (hcall _ (below_next HB.out (below_box _ _))).mono ?_; rintro e w1 ⟨rfl, b1⟩) | (at_builtin; refine wpList_append_vals rfl _ _ 78 rfl w.heap.size 3 (.int .i64 0) 8 Try.underlying78 info_int rfl _ _ rfl (((HO.out.alloc _).below b1).alloc _) _ _ _ rfl _ (ReadsV.lit w1 #[.int .i64 (k : Int)] 3) (by intro y hy; simp at hy; subst hy; rfl) (by have := HLen.out; simp; omega) (by have := HLen.out; unfold maxLen; simp; omega) (by have h1 := b1.size; have h2 := HB.out.size; simp at h1 ⊢; omega) ?_; intro v' w2 ho hg))
        go_roundw
        case rel =>
          refine ⟨k + 1, by omega, by go_num, ?_, ?_⟩
          · show OwnsV _ _ _ _ _
            rw [HNext.out]
            exact ho
          · refine (((HO.out.alloc _).below b1).alloc _).grown ?_ ?_ hg
            · exact (below_next (below_next HB.out (below_box _ _)) b1).alloc (by have h1 := b1.size; have h2 := HB.out.size; simp at h1; omega) _
            · have h1 := b1.size; have h2 := HB.out.size; simp at h1 ⊢; omega
        case measure => simp [intOf]; omega
      | false =>
        simp only [hpu] at hcall
        have HNext : Hid (placesL p l (k + 1) = placesL p l k) := placesL_no HROW.out hpu
        clear hpu
        go_wp2_with (go_at_fn g; refine (hcall _ (below_next HB.out (below_box _ _))).mono ?_; rintro e w1 ⟨rfl, b1⟩)
        go_roundw
        case rel =>
          refine ⟨k + 1, by omega, by go_num, ?_, ?_⟩
          · show OwnsV _ _ _ _ _
            rw [HNext.out]
            exact (HO.out.alloc _).below b1
          · exact below_next (below_next HB.out (below_box _ _)) b1
        case measure => simp [intOf]; omega
    · have hkn : k = n := by omega
      subst hkn
      go_wp2
      go_ret
      rw [HE.out]
      exact ⟨_, rfl, HO.out, HB.out⟩
set_option maxHeartbeats 1600000 in
theorem places_float (l : List Nat) (a : Option Addr) (cap : Nat) (w : World) (hr : ReadsV w a l.length (l.map fun b => .float .f64 b)) (hn : l.length ≤ 100000) (S : Nat → Prop) (hS : ∀ r ∈ l, S r) (p : Nat → Bool)
    (g : Nat) (lb : Array Value) (eg : ∀ args w, (callFunc g args).run Try.prog w = .ok (.enter g args) w) (hp : PredV g lb (fun b => .float .f64 b) S p w) :
    Calls Try.prog 148 #[.slice a l.length cap, .func (.func g) #[] lb] w (PlacesPost w p l) := by
  have HR := Lib.hid hr
  have HS := Lib.hid hS
  have HP := Lib.hid hp
  clear hr hS hp
  obtain ⟨n, hnn⟩ : ∃ n, l.length = n := ⟨_, rfl⟩
  have HE : Hid (PlacesPost w p l = fun e w' => ∃ v, e = .returned v ∧ OwnsV w.heap.size w' 3 v (natV (placesL p l n)) ∧ Below w.heap.size w w') := by show _ = _; rw [← hnn]; rfl
  rw [hnn] at hn ⊢
  have HN := Lib.hid hnn
  clear hnn
  go_enter Try.func148, Try.ntmps148
  go_wp2
  go_loopw [5, 10] (fun v i wr => ∃ k : Nat, k ≤ n ∧ i = .int .i64 k ∧ Hid (OwnsV w.heap.size wr 3 v (natV (placesL p l k))) ∧ Hid (Below w.heap.size w wr)) (fun _ i _ => n - (intOf i).toNat)
  case atStart => exact ⟨0, Nat.zero_le _, rfl, OwnsV.nil _ _ _, Below.refl _ _⟩
  case round =>
    obtain ⟨k, hk, rfl, HO, HB⟩ := hrel
    by_cases hlt : k < n
    · obtain ⟨u, hrow⟩ : ∃ r, l[k]? = some r := ⟨_, List.getElem?_eq_getElem (by rw [HN.out]; exact hlt)⟩
      have HRS := Lib.hid (HS.out u (List.mem_of_getElem? hrow))
      have HROW := Lib.hid hrow
      obtain ⟨b, off, rfl, hb, hc⟩ := (HR.out.below HB.out).at (i := k) (u := .float .f64 u) (by rw [List.getElem?_map, hrow]; rfl)
      clear hrow hb
      have hcall := fun W hW => HP.out W u HRS.out hW
      have hsz := HB.out.size
      obtain ⟨B, hB⟩ : ∃ B, w.heap.size = B := ⟨_, rfl⟩
      rw [hB] at hsz
      have hw1 : B ≤ wr.heap.size + 1 := by omega
      have hlen := placesL_length p l k
      have HLen : Hid ((natV (placesL p l k)).length ≤ 100000) := by show _ ≤ _; rw [natV_length]; omega
      clear hlen hB
      cases hpu : p u with
      | true =>
        simp only [hpu] at hcall
        have HNext : Hid (natV (placesL p l (k + 1)) = natV (placesL p l k) ++ [.int .i64 (k : Int)]) := by show _ = _; rw [placesL_yes HROW.out hpu, natV_append]; rfl
        clear hpu
        go_wp2_with (first | (go_at_fn g; refine (hcall _ (HB.out)).mono ?_; rintro e w1 ⟨rfl, b1⟩) | (at_builtin; refine wpList_append_vals rfl _ _ 78 rfl w.heap.size 3 (.int .i64 0) 8 Try.underlying78 info_int rfl _ _ rfl ((HO.out.below b1).alloc _) _ _ _ rfl _ (ReadsV.lit w1 #[.int .i64 (k : Int)] 3) (by intro y hy; simp at hy; subst hy; rfl) (by have := HLen.out; simp; omega) (by have := HLen.out; unfold maxLen; simp; omega) (by have h1 := b1.size; have h2 := HB.out.size; simp; omega) ?_; intro v' w2 ho hg))
        go_roundw
        case rel =>
          refine ⟨k + 1, by omega, by go_num, ?_, ?_⟩
          · show OwnsV _ _ _ _ _
            rw [HNext.out]
            exact ho
          · refine ((HO.out.below b1).alloc _).grown ?_ ?_ hg
            · exact (below_next (HB.out) b1).alloc (by have h1 := b1.size; have h2 := HB.out.size; omega) _
            · have h1 := b1.size; have h2 := HB.out.size; simp; omega
        case measure => simp [intOf]; omega
      | false =>
        simp only [hpu] at hcall
        have HNext : Hid (placesL p l (k + 1) = placesL p l k) := placesL_no HROW.out hpu
        clear hpu
        go_wp2_with (go_at_fn g; refine (hcall _ (HB.out)).mono ?_; rintro e w1 ⟨rfl, b1⟩)
        go_roundw
        case rel =>
          refine ⟨k + 1, by omega, by go_num, ?_, ?_⟩
          · show OwnsV _ _ _ _ _
            rw [HNext.out]
            exact HO.out.below b1
          · exact below_next (HB.out) b1
        case measure => simp [intOf]; omega
    · have hkn : k = n := by omega
      subst hkn
      go_wp2
      go_ret
      rw [HE.out]
      exact ⟨_, rfl, HO.out, HB.out⟩
end Go.Proofs.Ytplkglepbedhoaa
