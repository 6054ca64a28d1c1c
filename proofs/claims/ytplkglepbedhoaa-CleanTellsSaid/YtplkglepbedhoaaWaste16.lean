/- Package clean: Waste; the document's Waste and Worst. -/
import Derived.Test.YtplkglepbedhoaaClean16
import Derived.Deep.QuietTactic
namespace Go.Proofs.Ytplkglepbedhoaa
open Go.RowKit Go.Sort
set_option linter.unusedVariables false
set_option linter.unusedSimpArgs false
set_option maxRecDepth 100000

theorem gainAt_yes {room : Int} {us : List UseD} {i : Nat} {u : UseD} (h : us[i]? = some u) (hl : u.live < room) : gainAt room us i = room - u.live := by unfold gainAt; rw [h]; exact if_pos hl
theorem gainAt_no {room : Int} {us : List UseD} {i : Nat} {u : UseD} (h : us[i]? = some u) (hl : ¬ u.live < room) : gainAt room us i = 0 := by unfold gainAt; rw [h]; exact if_neg hl
set_option maxHeartbeats 1600000 in
theorem waste_is (us : List UseD) (a : Option Addr) (cap : Nat) (w : World) (hr : ReadsR w a 3 (usesV us)) (hn : us.length ≤ 1000) (hf : FineU us) (room : Int) (h0 : 1 ≤ room) (h1 : room ≤ 4096) :
    Calls Try.prog 13 #[.slice a us.length cap, .int .i64 room] w fun e w' => e = .returned (.int .i64 (sumG room us (inL 1 us))) ∧ Below w.heap.size w w' := by
  have hpl := places_use us a cap w hr (by omega) (fun _ => True) (fun _ _ => trivial) dirtyU 75 #[] enters_dirty (dirty_pred w)
  obtain ⟨S, hS⟩ : ∃ S, inL 1 us = S := ⟨_, rfl⟩
  have hmem : ∀ i ∈ S, i < us.length := fun i hi => by rw [← hS] at hi; exact inL_lt hi
  have hlen : S.length ≤ us.length := by rw [← hS]; exact placesL_length _ _ _
  have HP : Hid (∀ e w', PlacesPost w dirtyU us e w' → ∃ v, e = .returned v ∧ OwnsV w.heap.size w' 3 v (natV S) ∧ Below w.heap.size w w') := Lib.hid (fun e w' h => by unfold PlacesPost at h; rw [← hS]; exact h)
  rw [hS]
  have hbd := fun l => sumG_bound hf h0 h1 l
  obtain ⟨n, hnn⟩ : ∃ n, us.length = n := ⟨_, rfl⟩
  rw [hnn] at hpl hn hlen hmem ⊢
  have HPL := Lib.hid (hpl.mono HP.out)
  have HR := Lib.hid hr
  have HF := Lib.hid hf
  have HM := Lib.hid hmem
  have HN := Lib.hid hnn
  have HBD := Lib.hid hbd
  obtain ⟨m, hm⟩ : ∃ m, S.length = m := ⟨_, rfl⟩
  rw [hm] at hlen
  have HSL := Lib.hid hm
  clear hpl hr hf hmem hS HP hnn hm hbd
  go_enter Try.func13, Try.ntmps13
  go_wp2_with fail
  refine HPL.out.mono ?_
  rintro e w1 ⟨v, rfl, ho, b1⟩
  obtain ⟨x, c, rfl, hx, _, _⟩ := ho.reads
  rw [natV_length, HSL.out] at hx ⊢
  have HX := Lib.hid hx
  have B1 := Lib.hid b1
  clear hx b1 ho HPL
  go_wp2_with fail
  go_loopw [5, 12] (fun s i wr => ∃ k : Nat, k ≤ m ∧ i = .int .i64 k ∧ s = .int .i64 (sumG room us (S.take k)) ∧ wr = w1) (fun _ i _ => m - (intOf i).toNat)
  case atStart => exact ⟨0, Nat.zero_le _, rfl, rfl, rfl⟩
  case round =>
    obtain ⟨k, hk, rfl, rfl, rfl⟩ := hrel
    by_cases hlt : k < m
    · obtain ⟨i, hi⟩ : ∃ i, S[k]? = some i := ⟨_, List.getElem?_eq_getElem (by rw [HSL.out]; exact hlt)⟩
      have hin : i < n := HM.out i (List.mem_of_getElem? hi)
      obtain ⟨u, hu⟩ : ∃ u, us[i]? = some u := ⟨_, List.getElem?_eq_getElem (by rw [HN.out]; exact hin)⟩
      obtain ⟨b2, o2, rfl, _, hc2⟩ := HX.out.at (natV_get hi)
      obtain ⟨b, off, rfl, hb, hc⟩ := (HR.out.below B1.out).row (usesV_get hu)
      have c0 : wr.cell? ⟨b, off + i * 3, none⟩ = some (.int .i64 u.live) := hc 0 _ rfl
      have hfu := HF.out u (List.mem_of_getElem? hu)
      have hbk := HBD.out (S.take k)
      have hlk : (S.take k).length ≤ 1000 := by rw [List.length_take, HSL.out]; omega
      have hx1 : (0 : Int) ≤ (i : Int) := by omega
      have hx2 : (i : Int) < (n : Int) := by omega
      have HU := Lib.hid hu
      have HI := Lib.hid hi
      obtain ⟨s, hs⟩ : ∃ s, sumG room us (S.take k) = s := ⟨_, rfl⟩
      have HS := Lib.hid hs
      rw [hs] at hbk ⊢
      have hw1 : IntKind.i64.wrap (room - u.live) = room - u.live := IntWalk.i64_in _ (by omega)
      have hw2 : IntKind.i64.wrap (s + (room - u.live)) = s + (room - u.live) := IntWalk.i64_in _ (by omega)
      clear hc hi hu hb hs
      by_cases hl : u.live < room
      · have HNX : Hid (sumG room us (S.take (k + 1)) = s + (room - u.live)) := by show _ = _; rw [sumG_take HI.out, HS.out, gainAt_yes HU.out hl]
        go_wp2_with fail
        go_roundw
        case rel => exact ⟨k + 1, by omega, by go_num, by rw [HNX.out], by trivial⟩
        case measure => simp [intOf]; omega
      · have HNX : Hid (sumG room us (S.take (k + 1)) = s) := by show _ = _; rw [sumG_take HI.out, HS.out, gainAt_no HU.out hl, Int.add_zero]
        go_wp2_with fail
        go_roundw
        case rel => exact ⟨k + 1, by omega, by go_num, by rw [HNX.out], by trivial⟩
        case measure => simp [intOf]; omega
    · have hkn : k = m := by omega
      subst hkn
      have HT : Hid (S.take k = S) := by show _ = _; rw [List.take_of_length_le (by rw [HSL.out]; omega)]
      rw [HT.out]
      go_wp2
      go_ret
      exact ⟨rfl, B1.out⟩
set_option maxHeartbeats 1600000 in
theorem rwaste_is (us : List UseD) (a : Option Addr) (cap : Nat) (w : World) (hr : ReadsR w a 3 (usesV us)) (hn : us.length ≤ 1000) (hf : FineU us) (room : Int) (h0 : 1 ≤ room) (h1 : room ≤ 4096) :
    Calls Try.prog 14 #[.slice a us.length cap, .int .i64 room] w fun e w' => e = .returned (.int .i64 (sumG room us (inL 1 us))) ∧ w = w' := by
  have HE : Hid (sumG room us (inL 1 us) = sumG room us (placesL dirtyU us us.length)) := Lib.hid rfl
  rw [HE.out]
  have hbd := fun l => sumG_bound hf h0 h1 l
  obtain ⟨n, hnn⟩ : ∃ n, us.length = n := ⟨_, rfl⟩
  rw [hnn] at hn ⊢
  have HR := Lib.hid hr
  have HF := Lib.hid hf
  have HN := Lib.hid hnn
  have HBD := Lib.hid hbd
  clear hr hf hnn hbd
  go_enter Try.func14, Try.ntmps14
  go_wp2_with fail
  go_loopw [5, 6] (fun s i wr => ∃ k : Nat, k ≤ n ∧ i = .int .i64 k ∧ s = .int .i64 (sumG room us (placesL dirtyU us k)) ∧ wr = w) (fun _ i _ => n - (intOf i).toNat)
  case atStart => exact ⟨0, Nat.zero_le _, rfl, rfl, rfl⟩
  case round =>
    obtain ⟨k, hk, rfl, rfl, rfl⟩ := hrel
    by_cases hlt : k < n
    · obtain ⟨u, hu⟩ : ∃ u, us[k]? = some u := ⟨_, List.getElem?_eq_getElem (by rw [HN.out]; exact hlt)⟩
      obtain ⟨b, off, rfl, hb, hc⟩ := HR.out.row (usesV_get hu)
      have c0 : wr.cell? ⟨b, off + k * 3, none⟩ = some (.int .i64 u.live) := hc 0 _ rfl
      have c1 : wr.cell? ⟨b, off + k * 3 + 1, none⟩ = some (.int .i64 u.state) := by have := hc 1 _ rfl; rwa [← Nat.add_assoc] at this
      have hfu := HF.out u (List.mem_of_getElem? hu)
      have hbk := HBD.out (placesL dirtyU us k)
      have hlk := placesL_length dirtyU us k
      have HU := Lib.hid hu
      obtain ⟨s, hs⟩ : ∃ s, sumG room us (placesL dirtyU us k) = s := ⟨_, rfl⟩
      have HS := Lib.hid hs
      rw [hs] at hbk ⊢
      have hw1 : IntKind.i64.wrap (s + room) = s + room := IntWalk.i64_in _ (by omega)
      have hw2 : IntKind.i64.wrap (s + room - u.live) = s + room - u.live := IntWalk.i64_in _ (by omega)
      clear hc hu hb hs
      cases hd : u.state == 1 with
      | true =>
        have HP : Hid (placesL dirtyU us (k + 1) = placesL dirtyU us k ++ [k]) := placesL_yes HU.out hd
        by_cases hl : u.live < room
        · have HNX : Hid (sumG room us (placesL dirtyU us (k + 1)) = s + room - u.live) := by show _ = _; rw [HP.out, sumG_snoc, HS.out, gainAt_yes HU.out hl]; omega
          go_wp2_with fail
          go_roundw
          case rel => exact ⟨k + 1, by omega, by go_num, by rw [HNX.out], by trivial⟩
          case measure => simp [intOf]; omega
        · have HNX : Hid (sumG room us (placesL dirtyU us (k + 1)) = s) := by show _ = _; rw [HP.out, sumG_snoc, HS.out, gainAt_no HU.out hl, Int.add_zero]
          go_wp2_with fail
          go_roundw
          case rel => exact ⟨k + 1, by omega, by go_num, by rw [HNX.out], by trivial⟩
          case measure => simp [intOf]; omega
      | false =>
        have HNX : Hid (sumG room us (placesL dirtyU us (k + 1)) = s) := by show _ = _; rw [placesL_no HU.out hd, HS.out]
        go_wp2_with fail
        go_roundw
        case rel => exact ⟨k + 1, by omega, by go_num, by rw [HNX.out], by trivial⟩
        case measure => simp [intOf]; omega
    · have hkn : k = n := by omega
      subst hkn
      go_wp2
      go_ret
      exact ⟨rfl, rfl⟩
set_option maxHeartbeats 1600000 in
theorem rworst_is (us : List UseD) (a : Option Addr) (cap : Nat) (w : World) (hr : ReadsR w a 3 (usesV us)) (hn : us.length ≤ 1000) :
    Calls Try.prog 16 #[.slice a us.length cap] w fun e w' => e = .returned (.int .i64 (worstTo us us.length)) ∧ Below w.heap.size w w' := by
  obtain ⟨n, hnn⟩ : ∃ n, us.length = n := ⟨_, rfl⟩
  rw [hnn] at hn ⊢
  have HR := Lib.hid hr
  have HN := Lib.hid hnn
  clear hr hnn
  go_enter Try.func16, Try.ntmps16
  go_wp2_with fail
  go_loopw [3, 4] (fun s i wr => ∃ k : Nat, k ≤ n ∧ i = .int .i64 k ∧ s = .int .i64 (worstTo us k) ∧ Hid (Below w.heap.size w wr)) (fun _ i _ => n - (intOf i).toNat)
  case atStart => exact ⟨0, Nat.zero_le _, rfl, rfl, Below.refl _ _⟩
  case round =>
    obtain ⟨k, hk, rfl, rfl, HB⟩ := hrel
    by_cases hlt : k < n
    · obtain ⟨u, hu⟩ : ∃ u, us[k]? = some u := ⟨_, List.getElem?_eq_getElem (by rw [HN.out]; exact hlt)⟩
      obtain ⟨b, off, rfl, hb, hc⟩ := (HR.out.below HB.out).row (usesV_get hu)
      have c0 : wr.cell? ⟨b, off + k * 3, none⟩ = some (.int .i64 u.live) := hc 0 _ rfl
      have c1 : wr.cell? ⟨b, off + k * 3 + 1, none⟩ = some (.int .i64 u.state) := by have := hc 1 _ rfl; rwa [← Nat.add_assoc] at this
      have HU := Lib.hid hu
      have HCA := Lib.hid (worstTo_cases us k)
      have hk1 : (0 : Int) ≤ (k : Int) := by omega
      have hk2 : (k : Int) < (n : Int) := by omega
      clear hc hu hb
      obtain ⟨s, hs⟩ : ∃ s, worstTo us k = s := ⟨_, rfl⟩
      have HS := Lib.hid hs
      rw [hs] at HCA ⊢
      clear hs
      cases hd : u.state == 1 with
      | true =>
        rcases HCA.out with ⟨rfl, _⟩ | ⟨j, hj, rfl, _⟩
        · have HNX : Hid (worstTo us (k + 1) = (k : Int)) := worstTo_first HU.out hd HS.out
          clear HCA
          go_wp2_with fail
          go_quiet (fail)
          go_wp2_with fail
          go_roundw
          case rel => exact ⟨k + 1, by omega, by go_num, by rw [HNX.out], below_next HB.out (below_drewN _ _)⟩
          case measure => simp [intOf]; omega
        · obtain ⟨v, hv⟩ : ∃ v, us[j]? = some v := ⟨_, List.getElem?_eq_getElem (by rw [HN.out]; omega)⟩
          obtain ⟨b', off', e2, _, hc'⟩ := (HR.out.below HB.out).row (usesV_get hv)
          obtain ⟨rfl, rfl⟩ : b = b' ∧ off = off' := by simpa using e2
          have d0 : wr.cell? ⟨b, off + j * 3, none⟩ = some (.int .i64 v.live) := hc' 0 _ rfl
          have HNX := Lib.hid (worstTo_more HU.out hd HS.out hv)
          have hj0 : ¬ (j : Int) < 0 := by omega
          have hj1 : (0 : Int) ≤ (j : Int) := by omega
          have hj2 : (j : Int) < (n : Int) := by omega
          clear HCA hc' hv e2 hj
          by_cases hl : v.live < u.live
          · rw [if_pos hl] at HNX
            go_wp2_with fail
            go_quiet (fail)
            go_wp2_with fail
            go_roundw
            case rel => exact ⟨k + 1, by omega, by go_num, by rw [HNX.out], below_next HB.out (below_drewN _ _)⟩
            case measure => simp [intOf]; omega
          · rw [if_neg hl] at HNX
            go_wp2_with fail
            go_quiet (fail)
            go_wp2_with fail
            go_roundw
            case rel => exact ⟨k + 1, by omega, by go_num, by rw [HNX.out], below_next HB.out (below_drewN _ _)⟩
            case measure => simp [intOf]; omega
      | false =>
        have HNX : Hid (worstTo us (k + 1) = s) := by show _ = _; rw [worstTo_no HU.out hd, HS.out]
        go_wp2_with fail
        go_quiet (fail)
        go_wp2_with fail
        go_roundw
        case rel => exact ⟨k + 1, by omega, by go_num, by rw [HNX.out], below_next HB.out (below_drewN _ _)⟩
        case measure => simp [intOf]; omega
    · have hkn : k = n := by omega
      subst hkn
      go_wp2
      go_ret
      exact ⟨rfl, HB.out⟩
end Go.Proofs.Ytplkglepbedhoaa
