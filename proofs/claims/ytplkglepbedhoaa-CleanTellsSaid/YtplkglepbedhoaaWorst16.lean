/- Package clean: Worst; the law's awake. -/
import Derived.Test.YtplkglepbedhoaaWaste16
import Derived.Test.YtplkglepbedhoaaOpenUse
namespace Go.Proofs.Ytplkglepbedhoaa
open Go.RowKit Go.Sort
set_option linter.unusedVariables false
set_option linter.unusedSimpArgs false
set_option maxRecDepth 100000

theorem leftL_take {room : Int} {us : List UseD} {S : List Nat} {k q : Nat} (h : (partsL room us S)[k]? = some q) : fltsV (((partsL room us S).take (k + 1)).map negB) = fltsV (((partsL room us S).take k).map negB) ++ [.float .f64 (negB q)] := by
  rw [List.take_add_one, h, List.map_append]
  exact fltsV_snoc _ _
theorem fltsV_len (l : List Nat) : (fltsV l).length = l.length := by unfold fltsV; rw [List.length_map]
set_option maxHeartbeats 1600000 in
theorem worst_is (us : List UseD) (a : Option Addr) (cap : Nat) (w : World) (hr : ReadsR w a 3 (usesV us)) (hn : us.length ≤ 1000) (hf : FineU us) (room : Int) (h0 : 1 ≤ room) (h1 : room ≤ 4096) :
    Calls Try.prog 15 #[.slice a us.length cap, .int .i64 room] w fun e w' => e = .returned (.int .i64 (worstTo us us.length)) ∧ Below w.heap.size w w' := by
  have hpl := places_use us a cap w hr (by omega) (fun _ => True) (fun _ _ => trivial) dirtyU 75 #[] enters_dirty (dirty_pred w)
  have hpt := fun (W : World) (hW : Below w.heap.size w W) => parts_is us a cap W (hr.below hW) hn hf room h0 h1 dirtyU 75 enters_dirty (dirty_pred W)
  have hwa := fun h => worst_all hf h0 h1 h
  obtain ⟨S, hS⟩ : ∃ S, inL 1 us = S := ⟨_, rfl⟩
  have hlen : S.length ≤ us.length := by rw [← hS]; exact placesL_length _ _ _
  have hmem : ∀ i ∈ S, i < us.length := fun i hi => by rw [← hS] at hi; exact inL_lt hi
  have HP : Hid (∀ e w', PlacesPost w dirtyU us e w' → ∃ v, e = .returned v ∧ OwnsV w.heap.size w' 3 v (natV S) ∧ Below w.heap.size w w') := Lib.hid (fun e w' h => by unfold PlacesPost at h; rw [← hS]; exact h)
  have hemp : S = [] → worstTo us us.length = -1 := fun h => by
    unfold worstTo
    rw [show placesL dirtyU us us.length = inL 1 us from rfl, hS, h]
    rfl
  rw [show placesL dirtyU us us.length = inL 1 us from rfl, hS] at hpt
  rw [hS] at hwa
  obtain ⟨n, hnn⟩ : ∃ n, us.length = n := ⟨_, rfl⟩
  rw [hnn] at hpl hpt hwa hn hlen hmem hemp ⊢
  obtain ⟨z, hz⟩ : ∃ z, worstTo us n = z := ⟨_, rfl⟩
  rw [hz] at hwa hemp ⊢
  have HPL := Lib.hid (hpl.mono HP.out)
  have HPT := Lib.hid hpt
  have HWA := Lib.hid hwa
  have HM := Lib.hid hmem
  have HEMP := Lib.hid hemp
  obtain ⟨m, hm⟩ : ∃ m, S.length = m := ⟨_, rfl⟩
  rw [hm] at hlen
  have HSL := Lib.hid hm
  clear hpl hpt hwa hr hf hmem hS HP hnn hm hz hemp
  by_cases hm0 : m = 0
  · subst hm0
    have HZ : Hid (z = -1) := Lib.hid (HEMP.out (List.length_eq_zero_iff.1 HSL.out))
    rw [HZ.out]
    go_enter Try.func15, Try.ntmps15
    go_wp2_with fail
    refine HPL.out.mono ?_
    rintro e w1 ⟨v, rfl, ho, b1⟩
    obtain ⟨x, c, rfl, _, _, _⟩ := ho.reads
    rw [natV_length, HSL.out]
    go_wp2
    go_ret
    exact ⟨rfl, b1⟩
  · have ht0 : ((m : Int) == 0) = false := by simpa using hm0
    have HM0 := Lib.hid hm0
    clear hm0
    go_enter Try.func15, Try.ntmps15
    go_wp2_with fail
    refine HPL.out.mono ?_
    rintro e w1 ⟨v, rfl, ho, b1⟩
    obtain ⟨x, c, rfl, hx, _, _⟩ := ho.reads
    rw [natV_length, HSL.out] at hx ⊢
    have HX := Lib.hid hx
    have B1 := Lib.hid b1
    clear hx b1 ho HPL
    go_wp2_with fail
    refine (HPT.out w1 B1.out).mono ?_
    rintro e w2 ⟨v, rfl, ho, b2⟩
    obtain ⟨y, c2, rfl, hy, _, _⟩ := ho.reads
    rw [partsL_len, HSL.out] at hy ⊢
    have HY := Lib.hid hy
    have B2 := Lib.hid (below_next B1.out b2)
    have HX2 := Lib.hid (HX.out.below b2)
    have HPL2 : Hid ((partsL room us S).length = m) := by show _ = _; unfold partsL; rw [List.length_map, HSL.out]
    have HLE : Hid (leftL room us S = (partsL room us S).map negB) := Lib.hid rfl
    obtain ⟨Q, hQ⟩ : ∃ Q, partsL room us S = Q := ⟨_, rfl⟩
    rw [hQ] at HY HPL2 HLE
    have HQM : Hid (∀ k q : Nat, Q[k]? = some q → (leftL room us S)[k]? = some (negB q)) := Lib.hid (fun k q h => by rw [HLE.out, List.getElem?_map, h]; rfl)
    have HML : Hid ((leftL room us S).length = m) := by show _ = _; rw [HLE.out, List.length_map, HPL2.out]
    obtain ⟨M, hM⟩ : ∃ M, leftL room us S = M := ⟨_, rfl⟩
    have HMM := Lib.hid hM
    rw [hM] at HQM HML
    clear hM
    clear hy b2 ho hQ
    go_wp2_with fail
    go_loopw [6, 18] (fun v i wr => ∃ k : Nat, k ≤ m ∧ i = .int .i64 k ∧ Hid (OwnsV w2.heap.size wr 34 v (fltsV (M.take k))) ∧ Hid (Below w2.heap.size w2 wr)) (fun _ i _ => m - (intOf i).toNat)
    case atStart => exact ⟨0, Nat.zero_le _, rfl, OwnsV.nil _ _ _, Below.refl _ _⟩
    case round =>
      obtain ⟨k, hk, rfl, HO, HB⟩ := hrel
      by_cases hlt : k < m
      · obtain ⟨q, hq⟩ : ∃ q, Q[k]? = some q := ⟨_, List.getElem?_eq_getElem (by rw [HPL2.out]; exact hlt)⟩
        obtain ⟨b2, o2, rfl, _, hc2⟩ := (HY.out.below HB.out).at (fltsV_get hq)
        have HNext : Hid (fltsV (M.take (k + 1)) = fltsV (M.take k) ++ [.float .f64 (negB q)]) := by
          show _ = _
          rw [List.take_add_one, HQM.out k q hq]
          exact fltsV_snoc _ _
        have HLen : Hid ((fltsV (M.take k)).length ≤ 1000) := by show _ ≤ _; rw [fltsV_len, List.length_take, HML.out]; omega
        clear hq
        have hneg : ∀ W : World, (Op.unary .neg (.float .f64 q)).run Try.prog W = .ok (.float .f64 (negB q)) W := fun _ => rfl
        go_wp2_with (at_builtin; refine wpList_append_vals rfl _ _ 29 rfl w2.heap.size 34 (.float .f64 0) 8 Try.underlying29 info_flt16 rfl _ _ rfl (HO.out.alloc _) _ _ _ rfl _ (ReadsV.lit wr #[.float .f64 (negB q)] 34) (by intro y hy; simp at hy; subst hy; rfl) (by have := HLen.out; simp; omega) (by have := HLen.out; unfold maxLen; simp; omega) (by have h2 := HB.out.size; simp; omega) ?_; intro v' w3 ho hg)
        go_roundw
        case rel =>
          refine ⟨k + 1, by omega, by go_num, ?_, ?_⟩
          · show OwnsV _ _ _ _ _
            rw [HNext.out]
            exact ho
          · refine (HO.out.alloc _).grown ?_ ?_ hg
            · exact HB.out.alloc HB.out.size _
            · have h2 := HB.out.size; simp; omega
        case measure => simp [intOf]; omega
      · have hkn : k = m := by omega
        subst hkn
        have HT : Hid (M.take k = M) := by show _ = _; rw [List.take_of_length_le (by rw [HML.out]; omega)]
        have ho := HO.out
        rw [HT.out, ← HMM.out] at ho
        have hll : (leftL room us S).length = k := by rw [HMM.out, HML.out]
        obtain ⟨i, b, hr0, hSb, rfl⟩ := HWA.out (by intro h; rw [h] at HSL; exact HM0.out HSL.out.symm)
        obtain ⟨ya, yc, rfl, hyr, _, _⟩ := ho.reads
        rw [fltsV_len] at hyr ⊢
        have hrk := rank_is (leftL room us S) ya yc wr hyr (by omega)
        have hik : i < k := by
          have h1 := (List.getElem?_eq_some_iff.1 hSb).1
          rw [HSL.out] at h1
          exact h1
        have HRK := Lib.hid hrk
        have HR0 := Lib.hid hr0
        have HX3 := Lib.hid (HX2.out.below HB.out)
        have B3 := Lib.hid (below_next B2.out HB.out)
        rw [hll] at HRK ⊢
        have HSB := Lib.hid hSb
        have HRL : Hid ((rankL (leftL room us S)).length = k) := by show _ = _; unfold rankL; rw [sortL_length, List.length_range, hll]
        obtain ⟨R, hR⟩ : ∃ R, rankL (leftL room us S) = R := ⟨_, rfl⟩
        rw [hR] at HRK HR0 HRL
        clear hr0 hSb hyr hrk ho hll hR
        go_wp2_with fail
        refine HRK.out.mono ?_
        rintro e w4 ⟨ra, rc, rfl, hra, _, b4⟩
        rw [HRL.out] at hra ⊢
        obtain ⟨g1, f1, rfl, _, d1⟩ := hra.at (natV_get HR0.out)
        obtain ⟨g2, f2, rfl, _, d2⟩ := (HX3.out.below b4).at (natV_get HSB.out)
        have B4 := Lib.hid (below_next B3.out b4)
        have hk0 : (0 : Int) < (k : Int) := by omega
        have hi0 : (0 : Int) ≤ (i : Int) := by omega
        have hi1 : (i : Int) < (k : Int) := by omega
        rw [Nat.add_zero] at d1
        clear hra b4 hik hlt hk
        go_wp2_with fail
        go_ret
        exact ⟨rfl, B4.out⟩
theorem readsR_lit16 {cs : Array Value} {e : TypeId} {us : List UseD} (w : World) (hcs : cs.toList = flatR (usesV us)) (hm : us.length ≤ 1000) : ReadsR (w.alloc (.cells cs e)) (some ⟨w.heap.size, 0, none⟩) 3 (usesV us) := by
  have h := OwnsR'.new (B := w.heap.size) (w := w) (e := e) (uses_rows' us) (Nat.le_refl _) (by rw [usesV_length]; unfold maxLen; omega) hcs
  obtain ⟨a, c, hv, hr, _⟩ := h.reads
  injection hv with e1
  rw [e1]
  exact hr
set_option maxHeartbeats 1600000 in
theorem awake16_true (w : World) : Calls Try.prog 11 #[] w fun e w' => e = .returned (.bool true) ∧ Below w.heap.size w w' := by
  have f1 : FineU [⟨4, 1, 0⟩, ⟨0, 0, 0⟩] := by unfold FineU; decide
  have f2 : FineU [⟨0, 0, 0⟩, ⟨4, 1, 0⟩] := by unfold FineU; decide
  have hw := fun W => waste_is [⟨4, 1, 0⟩, ⟨0, 0, 0⟩] _ 2 _ (readsR_lit16 (cs := #[.int .i64 4, .int .i64 1, .int .u32 0, .int .i64 0, .int .i64 0, .int .u32 0]) (e := 28) W rfl (by decide)) (by decide) f1 16 (by decide) (by decide)
  have hs := fun W => worst_is [⟨0, 0, 0⟩, ⟨4, 1, 0⟩] _ 2 _ (readsR_lit16 (cs := #[.int .i64 0, .int .i64 0, .int .u32 0, .int .i64 4, .int .i64 1, .int .u32 0]) (e := 28) W rfl (by decide)) (by decide) f2 16 (by decide) (by decide)
  have e1 : sumG 16 [⟨4, 1, 0⟩, ⟨0, 0, 0⟩] (inL 1 [⟨4, 1, 0⟩, ⟨0, 0, 0⟩]) = 12 := by decide
  have e2 : worstTo [⟨0, 0, 0⟩, ⟨4, 1, 0⟩] 2 = 1 := by decide
  simp only [List.length_cons, List.length_nil, Nat.zero_add, Nat.reduceAdd, e1] at hw
  simp only [List.length_cons, List.length_nil, Nat.zero_add, Nat.reduceAdd, e2] at hs
  have HW := Lib.hid hw
  have HS := Lib.hid hs
  clear hw hs e1 e2 f1 f2
  go_enter Try.func11, Try.ntmps11
  go_wp2_with fail
  refine (HW.out w).mono ?_
  rintro e w1 ⟨rfl, b1⟩
  have B1 := Lib.hid (below_next (below_box _ _) b1)
  clear b1
  go_wp2_with fail
  refine (HS.out w1).mono ?_
  rintro e w2 ⟨rfl, b2⟩
  go_wp2
  go_ret
  exact ⟨rfl, below_next (below_next B1.out (below_box _ _)) b2⟩
end Go.Proofs.Ytplkglepbedhoaa
