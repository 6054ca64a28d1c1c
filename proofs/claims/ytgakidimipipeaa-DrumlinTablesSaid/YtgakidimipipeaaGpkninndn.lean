/- The inode map: Size, Load. -/
import Derived.Test.YtgakidimipipeaaGfcaljkcj
namespace Go.Proofs.Ytgakidimipipeaa
open Go.RowKit Go.Sort
set_option linter.unusedVariables false
set_option linter.unusedSimpArgs false
set_option maxRecDepth 100000

theorem msize_is {B : Nat} {w : World} {g gs : Nat} {sl : List SlotD} (h : IsMap B w g gs sl) : Calls Try.prog 18 #[.pointer (some ⟨g, 0, none⟩)] w fun e w' => e = .returned (.int .i64 (sl.length : Int)) ∧ w = w' := by
  have c0 := map_facts h
  generalize sl.length = n at *
  clear h
  go_enter Try.func18, Try.ntmps18
  go_wp2
  go_ret
  exact ⟨rfl, rfl⟩
theorem mload_len (n : Nat) (a : Option Addr) (cap : Nat) (w : World) (hn : n = 0 ∨ 200 < n) (hc : n ≤ 100000) :
    Calls Try.prog 11 #[.slice a n cap] w fun e w' => e = .returned (.tuple #[.pointer none, .int .i64 1]) ∧ Below w.heap.size w w' := by
  obtain ⟨m, hm⟩ : ∃ m : Nat, clampM (n : Int) = m := ⟨(clampM (n : Int)).toNat, by unfold clampM; omega⟩
  have hne : ((m : Int) != (n : Int)) = true := by
    simp
    unfold clampM at hm
    omega
  have HN := Lib.hid (mnew_is (n : Int) w m hm)
  clear hm hn
  go_enter Try.func11, Try.ntmps11
  go_wp2_with fail
  refine HN.out.mono ?_
  rintro e w1 ⟨g, gs, rfl, h1, b1⟩
  have H1 := Lib.hid h1
  have B1 := Lib.hid b1
  clear h1 b1
  go_wp2_with fail
  refine (msize_is H1.out).mono ?_
  rintro e w2 ⟨rfl, rfl⟩
  rw [List.length_replicate]
  go_wp2
  go_ret2
  exact ⟨rfl, B1.out⟩
/-- The slots that were set, and those that weren't yet. -/
def partM (zs : List SlotD) (k : Nat) : List SlotD := zs.take k ++ List.replicate (zs.length - k) zeroS
theorem partM_len (zs : List SlotD) (k : Nat) (h : k ≤ zs.length) : (partM zs k).length = zs.length := by unfold partM; simp; omega
theorem partM_get {zs : List SlotD} {k : Nat} (h : k < zs.length) : (partM zs k)[k]? = some zeroS := by
  unfold partM
  rw [List.getElem?_append_right (by rw [List.length_take]; omega), List.length_take, Nat.min_eq_left (by omega), Nat.sub_self, List.getElem?_replicate, if_pos (by omega)]
theorem partM_set {zs : List SlotD} {k : Nat} {s : SlotD} (h : zs[k]? = some s) : (partM zs k).set k s = partM zs (k + 1) := by
  have hk := (List.getElem?_eq_some_iff.1 h).1
  unfold partM
  obtain ⟨d, hd⟩ : ∃ d, zs.length - k = d + 1 := ⟨zs.length - k - 1, by omega⟩
  have hl : (zs.take k).length = k := by rw [List.length_take]; omega
  rw [show zs.length - (k + 1) = d by omega, hd, List.set_append_right _ _ (by omega), hl, Nat.sub_self, List.replicate_succ, List.set_cons_zero, List.take_add_one, h]
  simp
def VerOk (zs : List SlotD) : Prop := ∀ s ∈ zs, 0 ≤ s.version ∧ s.version < 4294967296
set_option maxHeartbeats 2000000 in
theorem mload_is (zs : List SlotD) (a : Option Addr) (cap : Nat) (w : World) (hr : ReadsR w a 4 (slotsV zs)) (h1 : 1 ≤ zs.length) (h2 : zs.length ≤ 200) (hv : VerOk zs) :
    Calls Try.prog 11 #[.slice a zs.length cap] w fun e w' => Below w.heap.size w w' ∧ ((zs.all mayS = true ∧ ∃ g gs, e = .returned (.tuple #[.pointer (some ⟨g, 0, none⟩), .int .i64 0]) ∧ IsMap w.heap.size w' g gs zs) ∨ (zs.all mayS = false ∧ e = .returned (.tuple #[.pointer none, .int .i64 1]))) := by
  have hp0 : partM zs 0 = List.replicate zs.length zeroS := by unfold partM; simp
  have hpn : partM zs zs.length = zs := by unfold partM; simp
  obtain ⟨n, hn⟩ : ∃ n, zs.length = n := ⟨_, rfl⟩
  rw [hn] at hp0 hpn h1 h2 ⊢
  have HNW := Lib.hid (mnew_is (n : Int) w n (by unfold clampM; omega))
  have HR := Lib.hid hr
  have HL := Lib.hid hn
  have HV := Lib.hid hv
  have HP0 := Lib.hid hp0
  have HPN := Lib.hid hpn
  clear hr hn hv hp0 hpn
  go_enter Try.func11, Try.ntmps11
  go_wp2_with fail
  refine HNW.out.mono ?_
  rintro e w1 ⟨g, gs, rfl, hm1, b1⟩
  have M1 := Lib.hid hm1
  have B1 := Lib.hid b1
  clear hm1 b1
  go_wp2_with fail
  refine (msize_is M1.out).mono ?_
  rintro e w2 ⟨rfl, rfl⟩
  rw [List.length_replicate]
  go_wp2_with fail
  go_loopw [18] (fun i wr => ∃ k : Nat, k ≤ n ∧ i = .int .i64 k ∧ Hid ((zs.take k).all mayS = true) ∧ Hid (IsMap w.heap.size wr g gs (partM zs k)) ∧ Hid (Below w.heap.size w wr)) (fun i _ => n - (intOf i).toNat)
  case atStart => exact ⟨0, Nat.zero_le _, rfl, Lib.hid rfl, by show IsMap _ _ _ _ _; rw [HP0.out]; exact M1.out, B1.out⟩
  case round =>
    obtain ⟨k, hk, rfl, HA, HMP, HB⟩ := hrel
    by_cases hlt : k < n
    · obtain ⟨s, hs⟩ : ∃ s, zs[k]? = some s := ⟨_, List.getElem?_eq_getElem (by rw [HL.out]; exact hlt)⟩
      obtain ⟨b, off, rfl, _, hc⟩ := (HR.out.below HB.out).row (slotsV_get hs)
      have c0 : wr.cell? ⟨b, off + k * 4, none⟩ = some (.int .i64 s.place) := hc 0 _ rfl
      have c1 : wr.cell? ⟨b, off + k * 4 + 1, none⟩ = some (.int .u32 s.version) := by have := hc 1 _ rfl; rwa [← Nat.add_assoc] at this
      have c2 : wr.cell? ⟨b, off + k * 4 + 2, none⟩ = some (.int .i64 s.links) := by have := hc 2 _ rfl; rwa [← Nat.add_assoc] at this
      have c3 : wr.cell? ⟨b, off + k * 4 + 3, none⟩ = some (.int .i64 s.kind) := by have := hc 3 _ rfl; rwa [← Nat.add_assoc] at this
      have hx0 : (0 : Int) ≤ (k : Int) := by omega
      have hx1 : (k : Int) < (n : Int) := by omega
      have HS := Lib.hid hs
      have hgt := partM_get (zs := zs) (k := k) (by rw [HL.out]; exact hlt)
      have hpl := partM_len zs k (by rw [HL.out]; exact hk)
      have HV2 := Lib.hid (HV.out s (List.mem_of_getElem? hs))
      have HM2 := Lib.hid (HMP.out.below (below_box wr (.cells #[.int .i64 s.place, .int .u32 s.version, .int .i64 s.links, .int .i64 s.kind] 28)))
      have HBB := Lib.hid (below_next HB.out (below_box wr (.cells #[.int .i64 s.place, .int .u32 s.version, .int .i64 s.links, .int .i64 s.kind] 28)))
      have HAL : Hid ((zs.take (k + 1)).all mayS = mayS s) := by
        show _ = _
        rw [List.take_add_one, hs, List.all_append, HA.out]
        simp
      have hwk : IntKind.i64.wrap ((k : Int) + 1) = (k : Int) + 1 := IntWalk.i64_in _ (by omega)
      clear hc hs
      cases hms : mayS s with
      | true =>
        have HSET := Lib.hid (mset_yes HM2.out k zeroS s hgt hms HV2.out)
        rw [partM_set HS.out] at HSET
        rw [hms] at HAL
        clear hms hgt hpl
        go_wp2_with fail
        refine HSET.out.mono ?_
        rintro e w3 ⟨rfl, hm3, g3⟩
        have M3 := Lib.hid hm3
        have B3 : Hid (Below w.heap.size w w3) := Lib.hid (HBB.out.grown g3 HBB.out.size (fun j hj => by
          obtain rfl := Option.some.inj hj
          exact (HM2.out.2.1.lt gs rfl).1))
        clear hm3 g3
        go_wp2_with fail
        go_roundw
        case rel => exact ⟨k + 1, by omega, by go_num, HAL, M3, B3⟩
        case measure => simp [intOf]; omega
      | false =>
        have HSET := Lib.hid (mset_no HM2.out k (by rw [hpl, HL.out]; exact hlt) s hms)
        have HBAD : Hid (zs.all mayS = false) := Lib.hid (List.all_eq_false.2 ⟨s, List.mem_of_getElem? HS.out, by rw [hms]; decide⟩)
        clear hms hgt hpl
        go_wp2_with fail
        refine HSET.out.mono ?_
        rintro e w3 ⟨rfl, b3⟩
        go_wp2
        go_ret2
        exact ⟨below_next HBB.out b3, .inr ⟨HBAD.out, rfl⟩⟩
    · have hkn : k = n := by omega
      subst hkn
      have hall : zs.all mayS = true := by
        have := HA.out
        rwa [List.take_of_length_le (by rw [HL.out]; exact Nat.le_refl _)] at this
      have hmp := HMP.out
      rw [HPN.out] at hmp
      have HALL := Lib.hid hall
      have HMF := Lib.hid hmp
      clear hall hmp
      go_wp2
      go_ret2
      exact ⟨HB.out, .inl ⟨HALL.out, g, gs, rfl, HMF.out⟩⟩
end Go.Proofs.Ytgakidimipipeaa
