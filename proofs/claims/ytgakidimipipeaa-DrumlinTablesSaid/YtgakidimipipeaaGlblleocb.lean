/- The law DrumlinTables, walked. -/
import Derived.Test.YtgakidimipipeaaGfcaljkcj
import Derived.Test.YtgakidimipipeaaGidpbnmig
import Derived.Test.YtgakidimipipeaaGdkacekdh
import Derived.Test.YtgakidimipipeaaGcoipjncb
import Derived.Test.YtgakidimipipeaaOpenRec
import Derived.Test.YtgakidimipipeaaGkngglbdk
import Derived.Deep.DeepCutAuto
import Derived.Deep.CutBlock
import Derived.WalkLawsBesides
namespace Go.Proofs.Ytgakidimipipeaa
open Go.ChangeShapes Go.WideShapes Go.ChangeAt Go.RowKit Go.Sort
set_option linter.unusedVariables false
set_option linter.unusedSimpArgs false
set_option maxRecDepth 100000

theorem and1_of (s : Int) : 0 ≤ bits .and .i64 s 1 ∧ bits .and .i64 s 1 ≤ 1 := by
  unfold bits
  simp only [BitVec.toNat_and]
  have h : (BitVec.ofInt IntKind.i64.bits 1).toNat = 1 := rfl
  rw [h]
  have h2 : (BitVec.ofInt IntKind.i64.bits s).toNat &&& 1 ≤ 1 := Nat.and_le_right
  generalize (BitVec.ofInt IntKind.i64.bits s).toNat &&& 1 = q at *
  rw [IntWalk.i64_in _ (by omega)]
  omega
theorem used_slot {sl : List SlotD} {x : Int} (h : usedAt sl x = true) : ∃ (i : Nat) (s : SlotD), x = (i : Int) + 1 ∧ sl[i]? = some s ∧ (s.kind == 0) = false := by
  unfold usedAt at h
  rw [Bool.and_eq_true] at h
  obtain ⟨h1, h2⟩ := h
  have h1 : 1 ≤ x := of_decide_eq_true h1
  cases hs : sl[(x - 1).toNat]? with
  | none => rw [hs] at h2; cases h2
  | some s =>
    rw [hs] at h2
    exact ⟨(x - 1).toNat, s, by omega, hs, by simpa using h2⟩
theorem free_start (m : Nat) : (∀ k, usedAt (List.replicate m zeroS) k = false) ∧ (usedI (List.replicate m zeroS)).length = 0 := by
  refine ⟨fun k => ?_, ?_⟩
  · unfold usedAt
    rw [List.getElem?_replicate]
    by_cases h : (k - 1).toNat < m
    · rw [if_pos h]
      show (decide (1 ≤ k) && !((0 : Int) == 0)) = false
      simp
    · rw [if_neg h]
      simp
  · rw [usedI_count, List.countP_replicate]
    rfl
set_option maxHeartbeats 6400000 in
theorem drumlinTables_walk (a : Option Addr) (cap : Nat) (l : List Act10D) (a2 : Option Addr) (len2 cap2 : Nat) (pl : List Int) (w : World) (hr : ReadsR w a 7 (rowsOf act10V l)) (hfit : ∀ u ∈ l, Act10Fits u) (hcap : l.length ≤ cap) (hp : ReadsI w a2 len2 pl) (hp2 : len2 ≤ cap2) (hpb : len2 ≤ maxLen) (hwz : ∀ x ∈ pl, I64 x) :
    Calls Try.prog 4 #[.slice a l.length cap, .slice a2 len2 cap2] w fun e w' => e = .returned (.bool true) ∧ Below w.heap.size w w' := by
  have hmk := @run_makeMap Try.prog
  obtain ⟨L, hL⟩ : ∃ L, l.length = L := ⟨_, rfl⟩
  have HLN := Lib.hid hL
  rw [hL] at hcap ⊢
  have HR := Lib.hid hr
  have HF := Lib.hid hfit
  have HP := Lib.hid hp
  have HWZ := Lib.hid hwz
  have HPB := Lib.hid hpb
  clear hr hfit hL hp hwz hpb
  go_enter Try.func4, Try.ntmps4
  go_wp2_with fail
  refine (mnew_is 12 w 12 (by unfold clampM; omega)).mono ?_
  rintro e w1 ⟨g, gs, rfl, hm1, b1⟩
  have M1 := Lib.hid hm1
  have B1 := Lib.hid b1
  clear hm1 b1
  go_wp2_with fail
  refine (tnew_is 9 16 w1 (by unfold I64; omega) (by unfold I64; omega) 9 (by unfold clampI; omega)).mono ?_
  rintro e w2 ⟨gt, gts, rfl, ht2, b2⟩
  have ht2' : IsTab w.heap.size w2 gt gts 16 (List.replicate 9 zeroU) := ht2.less B1.out.size
  have T2 := Lib.hid ht2'
  have M2 := Lib.hid (M1.out.below b2)
  have B2 : Hid (Below w.heap.size w w2) := Lib.hid (below_next B1.out b2)
  clear ht2 ht2' b2 M1 B1
  go_wp2_with fail
  refine (msize_is M2.out).mono ?_
  rintro e w3 ⟨rfl, rfl⟩
  rw [List.length_replicate]
  obtain ⟨w4, hw4⟩ : ∃ x, w2.alloc (.map #[] 0) = x := ⟨_, rfl⟩
  obtain ⟨bw, hbw⟩ : ∃ x, w2.heap.size = x := ⟨_, rfl⟩
  have k4 : Below w2.heap.size w2 w4 := by rw [← hw4]; exact (Below.refl _ _).alloc (Nat.le_refl _) _
  have HA4 : Hid (All3 w.heap.size w w4 g gs gt gts bw 0 (List.replicate 12 zeroS) (List.replicate 9 zeroU)) := by
    refine ⟨⟨M2.out.below k4, T2.out.below k4, ?_, below_next B2.out k4⟩, List.length_replicate, TInv.start 12⟩
    rw [← hw4, ← hbw]
    exact (wh_new w2 B2.out.size).same (Nat.le_refl _) (free_start 12).2.symm (fun k _ => ((free_start 12).1 k).symm) (fun k _ => (whereAt_start 12 k).symm)
  clear k4 M2 T2 B2
  go_upto_block 0 with (fail)
  clear hw4 hbw hmk
  go_cut [8] (fun i wx => ∃ (k : Nat) (sl : List SlotD) (us : List UseD), i = .int .i64 k ∧ k ≤ 60 ∧ Hid (All3 w.heap.size w wx g gs gt gts bw k sl us))
  case first =>
    go_wp2_with fail
    go_loopw [8] (fun i wr => ∃ (k : Nat) (sl : List SlotD) (us : List UseD), k ≤ L ∧ k ≤ 60 ∧ i = .int .i64 k ∧ Hid (All3 w.heap.size w wr g gs gt gts bw k sl us)) (fun i _ => 60 - (intOf i).toNat)
    case atStart => exact ⟨0, _, _, Nat.zero_le _, by decide, rfl, HA4⟩
    case round =>
      obtain ⟨k, sl, us, hk1, hk2, rfl, HA⟩ := hrel
      clear HA4
      by_cases hlt : k < L
      · by_cases h60 : k < 60
        · obtain ⟨⟨kd, num, nn, s0, s1, s2, s3⟩, hx⟩ : ∃ x, l[k]? = some x := ⟨_, List.getElem?_eq_getElem (by rw [HLN.out]; exact hlt)⟩
          obtain ⟨p1, p2, p3, _⟩ := HF.out _ (List.mem_of_getElem? hx)
          dsimp only at p1 p2 p3
          obtain ⟨b, off, rfl, hb, hc⟩ := (HR.out.below HA.out.st.bel).row (rowsOf_get hx)
          have c0 : wr.cell? ⟨b, off + k * 7, none⟩ = some (.int .i64 kd) := hc 0 _ rfl
          have c1 : wr.cell? ⟨b, off + k * 7 + 1, none⟩ = some (.int .i64 num) := by have := hc 1 _ rfl; rwa [← Nat.add_assoc] at this
          have c2 : wr.cell? ⟨b, off + k * 7 + 2, none⟩ = some (.int .i64 nn) := by have := hc 2 _ rfl; rwa [← Nat.add_assoc] at this
          have c3 : wr.cell? ⟨b, off + k * 7 + 3, none⟩ = some (.int .i64 s0) := by have := hc 3 _ rfl; rwa [← Nat.add_assoc] at this
          have c4 : wr.cell? ⟨b, off + k * 7 + 4, none⟩ = some (.int .u32 s1) := by have := hc 4 _ rfl; rwa [← Nat.add_assoc] at this
          have c5 : wr.cell? ⟨b, off + k * 7 + 5, none⟩ = some (.int .i64 s2) := by have := hc 5 _ rfl; rwa [← Nat.add_assoc] at this
          have c6 : wr.cell? ⟨b, off + k * 7 + 6, none⟩ = some (.int .i64 s3) := by have := hc 6 _ rfl; rwa [← Nat.add_assoc] at this
          have hx1 : (0 : Int) ≤ (k : Int) := by omega
          have hx2 : (k : Int) < (L : Int) := by omega
          have hx3 : (k : Int) < 60 := by omega
          obtain ⟨wb, hwb⟩ : ∃ x, wr.alloc (.cells #[.int .i64 kd, .int .i64 num, .int .i64 nn, .int .i64 s0, .int .u32 s1, .int .i64 s2, .int .i64 s3] 52) = x := ⟨_, rfl⟩
          have kb : Below wr.heap.size wr wb := by rw [← hwb]; exact (Below.refl _ _).alloc (Nat.le_refl _) _
          obtain ⟨gb, hgb⟩ : ∃ x, wr.heap.size = x := ⟨_, rfl⟩
          have hgbn : wb.heap[gb]? = some (.cells #[.int .i64 kd, .int .i64 num, .int .i64 nn, .int .i64 s0, .int .u32 s1, .int .i64 s2, .int .i64 s3] 52 (0, 0)) := by rw [← hwb, ← hgb]; exact heap_alloc_new wr _
          have SB := Lib.hid (HA.out.st.below HA.out.st.size kb)
          have HLE := Lib.hid HA.out.len
          have HINV := Lib.hid HA.out.inv
          have d0 : wb.cell? ⟨gb, 0, none⟩ = some (.int .i64 kd) := cell_of_row hgbn 0
          have d1 : wb.cell? ⟨gb, 1, none⟩ = some (.int .i64 num) := cell_of_row hgbn 1
          have d2 : wb.cell? ⟨gb, 2, none⟩ = some (.int .i64 nn) := cell_of_row hgbn 2
          obtain ⟨j, hj, hj12, ht1, ht2⟩ := turn_mod num 12 (by decide)
          have hj' : Int.tmod (Int.tmod num 12 + 12) 12 = (j : Int) := hj
          have ht1' : -12 < Int.tmod num 12 := ht1
          have ht2' : Int.tmod num 12 < 12 := ht2
          clear hc hx hb hgbn kb HR HF hlt h60 HA hj ht1 ht2
          by_cases hkd0 : kd = 0
          · subst hkd0
            have hq := and1_of nn
            obtain ⟨q, hqe⟩ : ∃ q, bits .and .i64 nn 1 = q := ⟨_, rfl⟩
            rw [hqe] at hq
            obtain ⟨hq0, hq1⟩ := hq
            rcases firstI_or (fun s : SlotD => s.kind == 0) sl with ⟨hf, hall⟩ | ⟨i, s, hf, hs, hfree, hbef⟩
            · have HFI := Lib.hid hf
              clear hf hall
              go_wp2_with fail
              refine (malloc_none SB.out.map HFI.out (1 + q) (by omega) (by omega)).mono ?_
              rintro e w5 ⟨rfl, b5⟩
              have A5 : Hid (All3 w.heap.size w w5 g gs gt gts bw (k + 1) sl us) := Lib.hid (by
                have h := SB.out.below SB.out.size b5
                exact ⟨⟨h.map, h.tab, h.wh.same (Nat.le_succ k) rfl (fun _ _ => rfl) (fun _ _ => rfl), h.bel⟩, HLE.out, HINV.out⟩)
              clear b5 d0 d1 d2 c0 c1 c2 c3 c4 c5 c6 hwb hgb hqe
              go_wp2
              go_roundw
              case rel => exact ⟨k + 1, sl, us, by omega, by omega, by go_num, A5⟩
              case measure => simp [intOf]; omega
            · have HFI := Lib.hid hf
              have HU := Lib.hid hs
              have hil := (List.getElem?_eq_some_iff.1 hs).1
              have HI := Lib.hid hil
              have him : i < 12 := by have := HLE.out; omega
              have hso : SlotOk s := SB.out.map.2.2.2.2.2 s (List.mem_of_getElem? hs)
              have hv0 := hso.2.2.1
              have hv1 := hso.2.2.2.1
              have HFR : Hid ((s.kind == 0) = true) := Lib.hid hfree
              have hp0 : usedAt sl ((i : Int) + 1) = false := by rw [usedAt_of hs]; show (!(s.kind == 0)) = false; rw [show (s.kind == 0) = true from hfree]; rfl
              have HP0 := Lib.hid hp0
              have HN : Hid (I64 ((i : Int) + 1)) := by show _ ∧ _; omega
              obtain ⟨nv, hnv⟩ : ∃ nv, nextV s.version = nv := ⟨_, rfl⟩
              have hnvb : 0 ≤ nv ∧ nv < 4294967296 := by rw [← hnv]; unfold nextV; omega
              have HNV := Lib.hid hnvb
              have HAL := Lib.hid (malloc_yes SB.out.map i s HU.out HFI.out (1 + q) (by omega) (by omega))
              rw [hnv] at HAL
              clear hf hs hil hso hbef hfree hnv hv0 hv1 hp0 hnvb
              go_wp2_with fail
              refine HAL.out.mono ?_
              rintro e w5 ⟨rfl, t5, g5⟩
              have S5 := Lib.hid (SB.out.mapped t5 g5)
              clear t5 g5 d0 d1 d2 c0 c1 c2 c3 c4 c5 c6 hwb hgb hqe HAL
              go_upto_if 84 with (fail)
              go_cut [14] (fun v wx => w5 = wx ∧ ∃ seg : Nat, seg < 9 ∧ v = .int .i64 (seg : Int))
              case first =>
                by_cases h0 : len2 = 0
                · have hx : ¬ (0 : Int) < (len2 : Int) := by omega
                  clear h0
                  go_wp2
                  go_meet
                  exact ⟨rfl, 0, by decide, rfl⟩
                · obtain ⟨hpl, rfl | ⟨b2, off2, rfl, hb2, hc2⟩⟩ := HP.out
                  · exact absurd hpl.symm h0
                  · obtain ⟨m2, hm2⟩ : ∃ m, k % len2 = m := ⟨_, rfl⟩
                    have hml : m2 < len2 := by rw [← hm2]; exact Nat.mod_lt _ (by omega)
                    obtain ⟨x, hx⟩ : ∃ x, pl[m2]?.getD 0 = x := ⟨_, rfl⟩
                    have hcx : w5.cell? ⟨b2, off2 + m2, none⟩ = some (.int .i64 x) := by
                      rw [← hx]
                      exact (S5.out.bel.cell (p := ⟨b2, off2 + m2, none⟩) hb2).trans (hc2 m2 hml)
                    have hrem : (k : Int).tmod (len2 : Int) = (m2 : Int) := by rw [← hm2, Int.ofNat_tmod]
                    obtain ⟨sg, hsg, hs9, ht3, ht4⟩ := turn_mod x 9 (by decide)
                    have hsg' : Int.tmod (Int.tmod x 9 + 9) 9 = (sg : Int) := hsg
                    have ht3' : -9 < Int.tmod x 9 := ht3
                    have ht4' : Int.tmod x 9 < 9 := ht4
                    have hl0 : (0 : Int) < (len2 : Int) := by omega
                    have hl1 : ¬ (len2 : Int) = 0 := by omega
                    have hm0 : (0 : Int) ≤ (m2 : Int) := by omega
                    have hm1 : (m2 : Int) < (len2 : Int) := by omega
                    clear hsg ht3 ht4 hc2 hb2 hpl hm2 hml hx h0
                    go_wp2
                    go_meet
                    exact ⟨rfl, sg, hs9, rfl⟩
              case rest =>
                obtain ⟨hw5, seg, hseg, rfl⟩ := hcut
                subst hw5
                obtain ⟨u, hu⟩ : ∃ u, us[seg]? = some u := ⟨_, List.getElem?_eq_getElem (by rw [HINV.out.len]; exact hseg)⟩
                have hlv := HINV.out.live seg u hu
                have hle := cntIn_le sl seg
                have hul : 0 ≤ u.live ∧ u.live ≤ 12 := by have := HLE.out; omega
                have HUU := Lib.hid hu
                have HUL := Lib.hid hul
                have HSEG := Lib.hid hseg
                have HSG : Hid (I64 (seg : Int)) := by show _ ∧ _; omega
                have HS1 : Hid ((sl.set i ⟨0, nv, 0, 1 + q⟩)[i]? = some ⟨0, nv, 0, 1 + q⟩) := Lib.hid (List.getElem?_set_self HI.out)
                have hsg9 : (seg : Int) < 9 := by omega
                clear hu hlv hle hul hseg
                go_wp2_with (at_mapUpdate; refine wpList_wh_put rfl _ _ _ rfl S5.out.wh rfl (by unfold maxLen; omega) _ HN.out rfl _ HSG.out rfl ?_; intro w6 a6 g6; have S6 := Lib.hid (S5.out.whered a6 g6); clear a6 g6)
                refine (mget_yes S6.out.map i _ HS1.out).mono ?_
                rintro e w7 ⟨rfl, b7⟩
                have S7 := Lib.hid (S6.out.below S6.out.size b7)
                clear b7
                dsimp only
                have nA := heap_alloc_new w7 (.cells #[.int .i64 0, .int .u32 nv, .int .i64 0, .int .i64 (1 + q)] 28)
                have bA : Below w7.heap.size w7 (w7.alloc (.cells #[.int .i64 0, .int .u32 nv, .int .i64 0, .int .i64 (1 + q)] 28)) := (Below.refl _ _).alloc (Nat.le_refl _) _
                obtain ⟨gx, hgx⟩ : ∃ x, w7.heap.size = x := ⟨_, rfl⟩
                obtain ⟨w8, hw8⟩ : ∃ x, w7.alloc (.cells #[.int .i64 0, .int .u32 nv, .int .i64 0, .int .i64 (1 + q)] 28) = x := ⟨_, rfl⟩
                rw [hw8] at nA bA
                rw [hgx] at nA
                have f0 := frozen_of_row w8 gx 0 _ _ nA
                have e0 := cell_of_row nA 0
                have e0' : w8.cell? ⟨gx, 0, none⟩ = some (.int .i64 0) := e0
                have hset := heap_setCell_same w8 gx 0 _ _ (.int .i64 (100 + (seg : Int))) nA
                have bS : Below w7.heap.size w7 (w8.setCell ⟨gx, 0, none⟩ (.int .i64 (100 + (seg : Int)))) := bA.setCell (p := ⟨gx, 0, none⟩) (by show w7.heap.size ≤ gx; omega) _
                obtain ⟨w9, hw9⟩ : ∃ x, w8.setCell ⟨gx, 0, none⟩ (.int .i64 (100 + (seg : Int))) = x := ⟨_, rfl⟩
                rw [hw9] at hset bS
                have S9 := Lib.hid (S7.out.below S7.out.size bS)
                have x0 : w9.cell? ⟨gx, 0, none⟩ = some (.int .i64 (100 + (seg : Int))) := cell_of_row hset 0
                have x1 : w9.cell? ⟨gx, 1, none⟩ = some (.int .u32 nv) := cell_of_row hset 1
                have x2 : w9.cell? ⟨gx, 2, none⟩ = some (.int .i64 0) := cell_of_row hset 2
                have x3 : w9.cell? ⟨gx, 3, none⟩ = some (.int .i64 (1 + q)) := cell_of_row hset 3
                have HMAY : Hid (mayS ⟨100 + (seg : Int), nv, 0, 1 + q⟩ = true) := Lib.hid (by
                  unfold mayS inB
                  simp only [Bool.and_eq_true, decide_eq_true_eq]
                  omega)
                have HU2 : Hid ((us.set seg ⟨u.live + 1, u.state, u.age⟩)[seg]? = some ⟨u.live + 1, u.state, u.age⟩) := Lib.hid (List.getElem?_set_self (List.getElem?_eq_some_iff.1 HUU.out).1)
                have hK : ((1 + q) == 0) = false := by simp; omega
                have HKK := Lib.hid hK
                clear nA bA e0 hset bS hK
                go_wp2_with fail
                refine (mset_yes S9.out.map i _ ⟨100 + (seg : Int), nv, 0, 1 + q⟩ HS1.out HMAY.out HNV.out).mono ?_
                rintro e w10 ⟨rfl, t10, g10⟩
                have S10 := Lib.hid (S9.out.mapped t10 g10)
                clear t10 g10 x0 x1 x2 x3 f0 e0' hw8 hw9 hgx
                go_wp2_with fail
                refine (tcount_yes S10.out.tab seg u HUU.out 1 (by have := HUL.out; omega) (by have := HUL.out; omega)).mono ?_
                rintro e w11 ⟨rfl, t11, g11⟩
                have S11 := Lib.hid (S10.out.tabled t11 g11)
                clear t11 g11
                go_wp2_with fail
                refine (tset_yes S11.out.tab seg _ HU2.out 1 (by decide) (by decide)).mono ?_
                rintro e w12 ⟨rfl, t12, g12⟩
                have S12 := Lib.hid (S11.out.tabled t12 g12)
                clear t12 g12
                go_wp2
                go_roundw
                case rel =>
                  have hmm : (sl.set i ⟨0, nv, 0, 1 + q⟩).set i ⟨100 + (seg : Int), nv, 0, 1 + q⟩ = sl.set i ⟨100 + (seg : Int), nv, 0, 1 + q⟩ := List.set_set ..
                  have huu : (us.set seg ⟨u.live + 1, u.state, u.age⟩).set seg ⟨u.live + 1, 1, u.age⟩ = us.set seg ⟨u.live + 1, 1, u.age⟩ := List.set_set ..
                  have hS := S12.out
                  rw [hmm, huu] at hS
                  refine ⟨k + 1, sl.set i ⟨100 + (seg : Int), nv, 0, 1 + q⟩, us.set seg ⟨u.live + 1, 1, u.age⟩, by omega, by omega, by go_num, Lib.hid ?_⟩
                  refine ⟨⟨hS.map, hS.tab, hS.wh.same (Nat.le_refl _) ?_ ?_ ?_, hS.bel⟩, by rw [List.length_set]; exact HLE.out, HINV.out.give HU.out HFR.out HKK.out HSEG.out rfl HUU.out rfl⟩
                  · have := usedI_set HU.out ⟨100 + (seg : Int), nv, 0, 1 + q⟩
                    rw [HP0.out, if_neg (by decide)]
                    rw [show (s.kind == 0) = true from HFR.out, show ((⟨100 + (seg : Int), nv, 0, 1 + q⟩ : SlotD).kind == 0) = false from HKK.out] at this
                    simp at this
                    omega
                  · intro x _
                    rw [usedAt_set HI.out, show ((⟨100 + (seg : Int), nv, 0, 1 + q⟩ : SlotD).kind == 0) = false from HKK.out]
                    by_cases e : x = (i : Int) + 1
                    · subst e; simp
                    · simp [e]
                  · intro x _
                    rw [whereAt_set HI.out, show ((⟨100 + (seg : Int), nv, 0, 1 + q⟩ : SlotD).kind == 0) = false from HKK.out]
                    by_cases e : x = (i : Int) + 1
                    · subst e; simp; omega
                    · simp [e]
                case measure => simp [intOf]; omega
          · by_cases hkd1 : kd = 1
            · subst hkd1
              have hjl : j < sl.length := by have := HLE.out; omega
              obtain ⟨s, hs⟩ : ∃ s, sl[j]? = some s := ⟨_, List.getElem?_eq_getElem hjl⟩
              have HU := Lib.hid hs
              have HN : Hid (I64 ((j : Int) + 1)) := by show _ ∧ _; omega
              have hcom : (1 : Int) + (j : Int) = (j : Int) + 1 := Int.add_comm _ _
              cases hk : s.kind == 0 with
              | true =>
                have HK := Lib.hid hk
                clear hk hs hjl
                go_wp2_with fail
                refine (mrel_free SB.out.map j s HU.out HK.out).mono ?_
                rintro e w5 ⟨rfl, b5⟩
                have A5 : Hid (All3 w.heap.size w w5 g gs gt gts bw (k + 1) sl us) := Lib.hid (by
                  have h := SB.out.below SB.out.size b5
                  exact ⟨⟨h.map, h.tab, h.wh.same (Nat.le_succ k) rfl (fun _ _ => rfl) (fun _ _ => rfl), h.bel⟩, HLE.out, HINV.out⟩)
                clear b5 d0 d1 d2 c0 c1 c2 c3 c4 c5 c6 hwb hgb
                go_wp2
                go_roundw
                case rel => exact ⟨k + 1, sl, us, by omega, by omega, by go_num, A5⟩
                case measure => simp [intOf]; omega
              | false =>
                have HK := Lib.hid hk
                obtain ⟨seg, hseg, hpl⟩ := HINV.out.place s (List.mem_of_getElem? hs) hk
                obtain ⟨u, hu⟩ : ∃ u, us[seg]? = some u := ⟨_, List.getElem?_eq_getElem (by rw [HINV.out.len]; exact hseg)⟩
                have hlv := HINV.out.live seg u hu
                have hpos := cntIn_pos hs (seg := seg) (by rw [usedIn_at hk hpl]; simp)
                have hle := cntIn_le sl seg
                have hul : 1 ≤ u.live ∧ u.live ≤ 12 := by have := HLE.out; omega
                have hwh : whereAt sl ((j : Int) + 1) = (seg : Int) := by rw [whereAt_of hs, hk, hpl]; show (100 + (seg : Int)) - 100 = _; omega
                have hus : usedAt sl ((j : Int) + 1) = true := by rw [usedAt_of hs, hk]; rfl
                have HUU := Lib.hid hu
                have HPL := Lib.hid hpl
                have HUS := Lib.hid hus
                have HUL := Lib.hid hul
                have HJL := Lib.hid hjl
                clear hk hs hjl hu hlv hpos hle hpl hus hul
                go_wp2_with fail
                refine (mrel_yes SB.out.map j s HU.out HK.out).mono ?_
                rintro e w5 ⟨rfl, t5, g5⟩
                have S5 := Lib.hid (SB.out.mapped t5 g5)
                clear t5 g5 d0 d1 d2 c0 c1 c2 c3 c4 c5 c6 hwb hgb
                go_wp2_with (at_lookup; refine wpList_wh_look rfl _ _ rfl S5.out.wh rfl _ HN.out rfl ?_; rw [hwh])
                refine (tcount_yes S5.out.tab seg u HUU.out (-1) (by have := HUL.out; omega) (by have := HUL.out; omega)).mono ?_
                rintro e w6 ⟨rfl, t6, g6⟩
                have S6 := Lib.hid (S5.out.tabled t6 g6)
                clear t6 g6
                go_wp2_with (at_delete; refine wpList_wh_del rfl _ _ rfl S6.out.wh rfl _ HN.out rfl ?_; intro w7 a7 g7; have S7 := Lib.hid (S6.out.whered a7 g7); clear a7 g7)
                go_roundw
                case rel =>
                  refine ⟨k + 1, sl.set j ⟨0, s.version, 0, 0⟩, us.set seg ⟨u.live + -1, u.state, u.age⟩, by omega, by omega, by go_num, Lib.hid ?_⟩
                  refine ⟨⟨S7.out.map, S7.out.tab, S7.out.wh.same (Nat.le_succ k) ?_ ?_ ?_, S7.out.bel⟩, by rw [List.length_set]; exact HLE.out, HINV.out.free HU.out HK.out rfl HPL.out HUU.out rfl⟩
                  · have := usedI_set HU.out ⟨0, s.version, 0, 0⟩
                    rw [HUS.out, if_pos rfl]
                    rw [show (s.kind == 0) = false from HK.out] at this
                    simp at this
                    omega
                  · intro x _
                    rw [usedAt_set HJL.out]
                    by_cases e : x = (j : Int) + 1
                    · subst e; simp
                    · simp [e]
                  · intro x _
                    rw [whereAt_set HJL.out]
                    by_cases e : x = (j : Int) + 1
                    · subst e; simp
                    · simp [e]
                case measure => simp [intOf]; omega
            · have A5 : Hid (All3 w.heap.size w wb g gs gt gts bw (k + 1) sl us) := Lib.hid (by
                have h := SB.out
                exact ⟨⟨h.map, h.tab, h.wh.same (Nat.le_succ k) rfl (fun _ _ => rfl) (fun _ _ => rfl), h.bel⟩, HLE.out, HINV.out⟩)
              have hn0 : (kd == 0) = false := by simpa using hkd0
              have hn1 : (kd == 1) = false := by simpa using hkd1
              clear hkd0 hkd1
              go_wp2
              go_roundw
              case rel => exact ⟨k + 1, sl, us, by omega, by omega, by go_num, A5⟩
              case measure => simp [intOf]; omega
        · have hx2 : (k : Int) < (L : Int) := by omega
          have hx3 : ¬ (k : Int) < 60 := by omega
          clear hlt h60
          go_wp2
          go_meet
          exact ⟨k, sl, us, rfl, hk2, HA⟩
      · have hx2 : ¬ (k : Int) < (L : Int) := by omega
        clear hlt
        go_wp2
        go_meet
        exact ⟨k, sl, us, rfl, hk2, HA⟩
  case rest =>
    obtain ⟨k, sl, us, rfl, hk60, HA⟩ := hcut
    generalize wc = wr at *
    have S := Lib.hid HA.out.st
    have HLE := Lib.hid HA.out.len
    have HINV := Lib.hid HA.out.inv
    have htot := HA.out.inv.total
    obtain ⟨N, hN⟩ : ∃ N, (usedI sl).length = N := ⟨_, rfl⟩
    rw [hN] at htot S
    have HN := Lib.hid hN
    have hlive := tlive_is S.out.tab
    rw [htot] at hlive
    have HLIVE := Lib.hid hlive
    have hmk := @run_makeMap Try.prog
    clear HA HA4 htot hN hlive HR HF
    go_wp2_with fail
    refine HLIVE.out.mono ?_
    rintro e w5 ⟨rfl, b5⟩
    have S5 := Lib.hid (S.out.below S.out.size b5)
    clear b5 HLIVE
    go_wp2_with fail
    refine (mcount_is S5.out.map).mono ?_
    rintro e w6 ⟨rfl, b6⟩
    rw [HN.out]
    have S6 := Lib.hid (S5.out.below S5.out.size b6)
    clear b6
    go_wp2_with (at_len; refine wpList_wh_len rfl _ rfl S6.out.wh rfl ?_)
    refine (mcount_is S6.out.map).mono ?_
    rintro e w7 ⟨rfl, b7⟩
    rw [HN.out]
    have S7 := Lib.hid (S6.out.below S6.out.size b7)
    clear b7
    obtain ⟨w8, hw8⟩ : ∃ x, w7.alloc (.map #[] 0) = x := ⟨_, rfl⟩
    obtain ⟨bg, hbg⟩ : ∃ x, w7.heap.size = x := ⟨_, rfl⟩
    have k8 : Below w7.heap.size w7 w8 := by rw [← hw8]; exact (Below.refl _ _).alloc (Nat.le_refl _) _
    have S8 := Lib.hid (S7.out.below S7.out.size k8)
    have G8 : Hid (IsWh w.heap.size w8 bg 0 0 (fun _ => false) (fun _ => 0)) := Lib.hid (by rw [← hw8, ← hbg]; exact wh_new w7 S7.out.size)
    have hbb : bw ≠ bg := by have := S7.out.wh.lt; omega
    have HBB := Lib.hid hbb
    clear k8 hbb
    go_wp2_with fail
    refine (trel_is S8.out.tab).mono ?_
    rintro e w9 ⟨a9, c9, rfl, hr9, hc9, t9, g9⟩
    have hgne : bg ≠ gts := by
      obtain ⟨cb, hb⟩ := S8.out.tab.2.1.block
      exact G8.out.ne hb
    have S9 := Lib.hid (S8.out.tabled t9 g9)
    have G9 : Hid (IsWh w.heap.size w9 bg 0 0 (fun _ => false) (fun _ => 0)) := Lib.hid (G8.out.kept g9 (by simpa using hgne))
    have hids : ∀ x ∈ idleL us, x < 9 ∧ cntIn sl x = 0 := by
      intro x hx
      obtain ⟨u, hu, hl⟩ := idle_live hx
      have h9 := (List.getElem?_eq_some_iff.1 hu).1
      have hv := HINV.out.live x u hu
      have := HINV.out.len
      omega
    have INV9 := Lib.hid HINV.out.released
    have HIDS := Lib.hid hids
    obtain ⟨us9, hus9⟩ : ∃ x, wipe us (idleL us) = x := ⟨_, rfl⟩
    rw [hus9] at S9 INV9
    obtain ⟨ids, hidl⟩ : ∃ x, idleL us = x := ⟨_, rfl⟩
    rw [hidl] at hr9 hc9 HIDS ⊢
    obtain ⟨m, hm⟩ : ∃ m, ids.length = m := ⟨_, rfl⟩
    have hm9 : m ≤ 9 := by
      rw [← hm, ← hidl]
      refine Nat.le_trans (placesL_length _ _ _) ?_
      have := HINV.out.len
      omega
    rw [hm] at hr9 hc9 ⊢
    have HM := Lib.hid hm
    have HM9 := Lib.hid hm9
    have HR9 := Lib.hid hr9
    clear hgne t9 g9 hids hus9 hidl hm hm9 hr9 S8 G8 HINV hw8 hbg S5 S6 S7 S
    go_wp2_with fail
    go_loopw [155] (fun i wr => ∃ (j sz : Nat) (pg : Int → Bool) (Fg : Int → Int), j ≤ m ∧ i = .int .i64 (j : Int) ∧ Hid (St w.heap.size w wr g gs gt gts bw k N (usedAt sl) (whereAt sl) sl us9) ∧ Hid (IsWh w.heap.size wr bg j sz pg Fg) ∧ Hid (∀ z, I64 z → Fg z ≠ 0 → ∃ x ∈ ids, z = (x : Int)) ∧ Hid (ReadsV wr a9 m (natV ids))) (fun i _ => m - (intOf i).toNat)
    case atStart => exact ⟨0, 0, _, _, Nat.zero_le _, rfl, S9, G9, Lib.hid (fun z _ h => absurd rfl h), HR9⟩
    case round =>
      obtain ⟨j, sz, pg, Fg, hj, rfl, SR, GR, HFG, HRR⟩ := hrel
      rename_i wr _
      clear S9 G9 HR9
      by_cases hlt : j < m
      · obtain ⟨x, hx⟩ : ∃ x, ids[j]? = some x := ⟨_, List.getElem?_eq_getElem (by rw [HM.out]; exact hlt)⟩
        have hxv : (natV ids)[j]? = some (.int .i64 (x : Int)) := by unfold natV; rw [List.getElem?_map, hx]; rfl
        obtain ⟨b9, off9, rfl, hb9, hcx⟩ := HRR.out.at hxv
        have hx9 := (HIDS.out x (List.mem_of_getElem? hx)).1
        have HX := Lib.hid hx
        have HIX : Hid (I64 (x : Int)) := by show _ ∧ _; omega
        have hj0 : (0 : Int) ≤ (j : Int) := by omega
        have hj1 : (j : Int) < (m : Int) := by omega
        have h9 := HM9.out
        have HLT := Lib.hid hlt
        clear hx hxv hb9 hx9 hlt
        go_wp2_with (at_mapUpdate; refine wpList_wh_put rfl _ _ _ rfl GR.out rfl (by unfold maxLen; omega) _ HIX.out rfl _ (by unfold I64; omega) rfl ?_; intro w6 a6 g6; have S6 := Lib.hid (SR.out.other GR.out HBB.out g6); have R6 := Lib.hid (HRR.out.keptQ GR.out g6); have G6 := Lib.hid a6; clear a6 g6)
        go_roundw
        case rel =>
          refine ⟨j + 1, _, _, _, HLT.out, by go_num, S6, G6, Lib.hid ?_, R6⟩
          intro z hz hne
          by_cases e : z = (x : Int)
          · exact ⟨x, List.mem_of_getElem? HX.out, e⟩
          · rw [if_neg e] at hne
            exact HFG.out z hz hne
        case measure => simp [intOf]; omega
      · obtain rfl : j = m := by omega
        have hge : ¬ (j : Int) < (j : Int) := by omega
        obtain ⟨D, hown, hreads⟩ := SR.out.wh.2
        have HD := Lib.hid hreads
        have HOWN := Lib.hid hown
        have hsz : w.heap.size ≤ wr.heap.size := SR.out.size
        clear hlt hreads hown HRR hc9
        go_wp2_with (first | (at_range; refine wpList_range_own _ rfl _ 50 rfl 3 3 lawQ Try.underlying50 _ bw k D rfl HOWN.out ?_; intro w10 hrg0 hg0 hs0) | fail)

        obtain ⟨r, hr⟩ : ∃ r, wr.heap.size = r := ⟨_, rfl⟩
        generalize wr = ws at *
        have K10 : Hid (Below r ws w10) := Lib.hid ((Below.refl r ws).grown hg0 (Nat.le_of_eq hr.symm) (by intro j hj; cases hj))
        rw [hr] at hrg0 hs0 ⊢
        have HRS := Lib.hid hr
        clear hg0 HOWN hge hr hs0 hsz
        go_loopw [21] (fun _ wx => ∃ (left : Lit → Bool) (cnt : Nat), Hid (wx.ranges Try.prog 3 (plainElem Try.prog 3) bw r k D left cnt) ∧ Hid (∀ z, left z = true → Maps.has D z = true) ∧ Hid (Below r ws wx)) (fun _ wx => wx.rangeLeft bw r)
        case atStart => exact ⟨_, _, Lib.hid hrg0, Lib.hid (fun z h => h), K10⟩
        case round =>
          obtain ⟨left, cnt, HRG, HSUB, HBX⟩ := hrel
          clear hrg0 K10
          have SX : Hid (St w.heap.size w wr g gs gt gts bw k N (usedAt sl) (whereAt sl) sl us9) := Lib.hid (SR.out.below SR.out.size (by rw [HRS.out]; exact HBX.out))
          have GX : Hid (IsWh w.heap.size wr bg j sz pg Fg) := Lib.hid (GR.out.below (by rw [HRS.out]; exact HBX.out))
          go_wp2_with (first | (at_next; refine wpList_next_ranges_ii _ rfl _ rfl 3 3 .i64 .i64 lawQ Try.underlying3 Try.underlying3 bw r k _ _ _ rfl HRG.out ?_ ?_) | fail)
          · intro _ hl0
            clear hl0 HRG HSUB GX HFG HD GR HBX HRS HIDS HM
            generalize wr = wt at *
            clear SR
            have HUO : Hid (∀ u ∈ us9, UseOk 16 u) := Lib.hid SX.out.tab.2.2.2.2.2.2.2
            have hu9 : us9.length = 9 := INV9.out.len
            have HU9 := Lib.hid hu9
            have HMO : Hid (MapOk sl) := Lib.hid SX.out.map.2.2.2
            have HT2 : Hid (tens sl.length = 2) := Lib.hid (by rw [HLE.out]; rfl)
            clear hu9
            go_wp2_with fail
            refine (msectors_is SX.out.map).mono ?_
            rintro e w20 ⟨v20, rfl, ho20, b20⟩
            rw [HT2.out] at ho20
            have S20 := Lib.hid (SX.out.below SX.out.size b20)
            clear b20 SX
            have hos : OwnsR' wt.heap.size w20 41 128 v20 (secsM sl (List.range 2)) := ⟨secsM_rows (secM_len HMO.out.2.2) _, ho20⟩
            obtain ⟨a7, c7, e7, hr7, hl7, _⟩ := hos.reads
            rw [show (secsM sl (List.range 2)).length = 2 from rfl] at e7 hl7
            subst e7
            have hrd := mread_is HMO.out 12 (by decide) (by decide) a7 c7 w20 (by rw [HT2.out]; exact hr7)
            rw [HT2.out] at hrd
            have HRD := Lib.hid hrd
            clear ho20 hos hr7 hrd
            go_wp2_with fail
            refine HRD.out.mono ?_
            rintro e w21 ⟨b21, ⟨-, gk, gks, rfl, M21⟩ | ⟨hne, -⟩⟩
            · have MK := Lib.hid (M21.less S20.out.size)
              have S21 := Lib.hid (S20.out.below S20.out.size b21)
              clear b21 M21 HRD S20
              go_wp2_with fail
              refine (tuses_is S21.out.tab).mono ?_
              rintro e w22 ⟨v22, rfl, ho22, b22⟩
              obtain ⟨a8, c8, rfl, hr8, hl8, _⟩ := ho22.reads
              rw [show (usesV us9).length = 9 from by unfold usesV; rw [List.length_map]; exact HU9.out] at hl8 ⊢
              have S22 := Lib.hid (S21.out.below S21.out.size b22)
              have MK2 := Lib.hid (MK.out.below b22)
              clear b22 S21 MK ho22
              have HFL : Hid (∀ x ∈ us9.map fldU, IsFUse x) := Lib.hid (uses_fld HUO.out)
              have hw := writeUses_is (us9.map fldU) HFL.out a8 c8 (by rw [fldU_rows]; exact hr8)
              have hbk := uses_back HUO.out (by rw [HU9.out]; decide)
              have hwr := uses_written HUO.out (by rw [HU9.out]; decide)
              have hmk := writeUse_length HFL.out
              have hmkb := writeUse_bytes HFL.out
              have he0 : (writeUse (us9.map fldU)).2 = 0 := by rw [hwr]
              rw [show (us9.map fldU).length = 9 from by rw [List.length_map]; exact HU9.out, he0] at hw
              clear hwr he0 hr8
              obtain ⟨mk, hmke⟩ : ∃ x, (writeUse (us9.map fldU)).1 = x := ⟨_, rfl⟩
              rw [hmke] at hw hbk hmk hmkb
              have HW := Lib.hid hw
              have HBK := Lib.hid hbk
              have HMKB := Lib.hid hmkb
              clear hw hbk hmkb hmke
              go_wp2_with fail
              refine HW.out.mono ?_
              rintro e w23 ⟨rfl, b23⟩
              have S23 := Lib.hid (S22.out.below S22.out.size b23)
              have MK3 := Lib.hid (MK2.out.below b23)
              clear b23 S22 MK2 HW
              have hz := zero_sector
              have nzA := heap_alloc_new w23 (.cells (cells noughts) 41)
              have bbA := below_box w23 (.cells (cells mk) 41)
              have nA := heap_alloc_new w23 (.cells (cells mk) 41)
              have eA := World.setRow_alloc_new w23 (cells noughts) (cells mk) 41
              obtain ⟨w24, hwA⟩ : ∃ wx, w23.alloc (.cells (cells mk) 41) = wx := ⟨_, rfl⟩
              rw [hwA] at bbA nA eA
              have S24 := Lib.hid (S23.out.below S23.out.size bbA)
              have MK4 := Lib.hid (MK3.out.below bbA)
              clear bbA hwA S23 MK3
              obtain ⟨mA, hmA⟩ : ∃ m, w23.heap.size = m := ⟨_, rfl⟩
              rw [hmA] at nzA nA eA
              have HRU := Lib.hid (readUses_is (w := w24) mk hmk HMKB.out)
              have HMK := Lib.hid hmk
              rw [HBK.out] at HRU
              have hcA : ∀ j, j < 128 → w24.cell? ⟨mA, 0 + j, none⟩ = some (byteV (mk.getD j 0)) := fun j hj => by rw [Nat.zero_add]; exact (cell_of_row nA j).trans (cells_getD hmk hj)
              have HCA := Lib.hid hcA
              clear hcA nA
              go_wp2_with (first | (refine wpList_store_sector rfl _ _ rfl mA mk rfl rfl HMK.out _ _ nzA rfl ?_; rw [eA]) | (refine wpList_load_sector rfl _ rfl mA 0 mk rfl HMK.out HCA.out ?_) | fail)
              clear hz nzA eA
              refine HRU.out.mono ?_
              rintro e w25 ⟨b25, a10, c10, rfl, ho25⟩
              rw [show (us9.map fldU).length = 9 from by rw [List.length_map]; exact HU9.out, fldU_rows] at ho25
              dsimp only
              rw [show (us9.map fldU).length = 9 from by rw [List.length_map]; exact HU9.out]
              have hr25 := ho25.reads5
              have S25 := Lib.hid (S24.out.below S24.out.size b25)
              have MK5 := Lib.hid (MK4.out.below b25)
              clear b25 S24 MK4 HRU hmk ho25 HCA
              have hld := tload_yes 16 a10 c10 us9 w25 hr25 (by unfold I64; omega) (by rw [HU9.out]; decide) (by rw [HU9.out]; decide) (by rw [show clampI 4096 16 = 16 from by decide]; exact HUO.out)
              rw [HU9.out] at hld
              have HLD := Lib.hid hld
              clear hld hr25
              go_wp2_with fail
              refine HLD.out.mono ?_
              rintro e w26 ⟨gu, gus, rfl, tu, b26⟩
              have TU : Hid (IsTab w.heap.size w26 gu gus 16 us9) := Lib.hid (by have h := tu.less S25.out.size; rw [show clampI 4096 16 = 16 from by decide] at h; exact h)
              have S26 := Lib.hid (S25.out.below S25.out.size b26)
              have MK6 := Lib.hid (MK5.out.below b26)
              have hlv := tlive_is TU.out
              rw [INV9.out.total, HN.out] at hlv
              have HLV := Lib.hid hlv
              have hmc := mcount_is MK6.out
              rw [HN.out] at hmc
              have HMC := Lib.hid hmc
              clear tu b26 S25 MK5 HLD hlv hmc
              go_wp2_with fail
              refine HLV.out.mono ?_
              rintro e w27 ⟨rfl, b27⟩
              have TU7 := Lib.hid (TU.out.below b27)
              have S27 := Lib.hid (S26.out.below S26.out.size b27)
              have MK7 := Lib.hid (MK6.out.below b27)
              clear b27 TU S26 MK6 HLV HMC
              go_wp2_with fail
              refine (mcount_is MK7.out).mono ?_
              rintro e w28 ⟨rfl, b28⟩
              rw [HN.out]
              have TU8 := Lib.hid (TU7.out.below b28)
              have S28 := Lib.hid (S27.out.below S27.out.size b28)
              obtain ⟨nc, hnc⟩ : ∃ x, (inL 0 us9).length = x := ⟨_, rfl⟩
              have HNC := Lib.hid hnc
              obtain ⟨no, hno⟩ : ∃ x, (orderL 16 5 us9).length = x := ⟨_, rfl⟩
              have HNO := Lib.hid hno
              clear b28 TU7 S27 MK7 hnc hno
              go_wp2_with fail
              refine (tclean_is TU8.out).mono ?_
              rintro e w29 ⟨rfl, b29⟩
              rw [HNC.out]
              have TU9 := Lib.hid (TU8.out.below b29)
              have S29 := Lib.hid (S28.out.below S28.out.size b29)
              clear b29 TU8 S28
              go_wp2_with fail
              refine (tclean_is S29.out.tab).mono ?_
              rintro e w30 ⟨rfl, b30⟩
              rw [HNC.out]
              have TU10 := Lib.hid (TU9.out.below b30)
              have S30 := Lib.hid (S29.out.below S29.out.size b30)
              clear b30 TU9 S29
              go_wp2_with fail
              refine (torder_is TU10.out 5 (by decide) (by decide)).mono ?_
              rintro e w31 ⟨a11, c11, rfl, -, -, b31⟩
              rw [HNO.out]
              have S31 := Lib.hid (S30.out.below S30.out.size b31)
              clear b31 TU10 S30
              go_wp2_with fail
              refine (torder_is S31.out.tab 5 (by decide) (by decide)).mono ?_
              rintro e w32 ⟨a12, c12, rfl, -, -, b32⟩
              rw [HNO.out]
              have S32 := Lib.hid (S31.out.below S31.out.size b32)
              clear b32 S31
              go_wp2
              go_ret
              exact ⟨rfl, S32.out.bel⟩
            · exact absurd (by have := HLE.out; omega) hne
          · intro x c w11 cnt1 hwx hwc hlx hat hrg1 hlt hg1 hs1 hen
            have hI : I64 x := i64_of_wf hwx
            obtain ⟨hh, hf⟩ := HD.out.2 x hI
            rw [HSUB.out _ hlx] at hh
            rw [hat] at hf
            injection hf with hf
            injection hf with _ hf
            obtain ⟨i, s, rfl, hs, hk⟩ := used_slot hh.symm
            have hwh := whereAt_of hs
            rw [hk, if_neg (by decide)] at hwh
            obtain ⟨seg, hs9, hpl⟩ := INV9.out.place s (List.mem_of_getElem? hs) hk
            have hcs : c = (seg : Int) := by omega
            subst hcs
            have hpos := cntIn_pos (seg := seg) hs (by rw [usedIn_at hk hpl]; simp)
            have hgone : Fg (seg : Int) = 0 := by
              refine Classical.byContradiction fun hne => ?_
              obtain ⟨y, hy, e⟩ := HFG.out (seg : Int) (by unfold I64; omega) hne
              have e' : seg = y := by omega
              subst e'
              have := (HIDS.out seg hy).2
              omega
            obtain ⟨pl, ver, lk, kd⟩ := s
            obtain rfl : pl = 100 + (seg : Int) := hpl
            have HS := Lib.hid hs
            have HGO := Lib.hid hgone
            have B11 : Hid (Below r ws w11) := Lib.hid (HBX.out.grown hg1 (Nat.le_trans (by rw [HRS.out]; exact Nat.le_refl _) HBX.out.size) (by intro j hj; obtain rfl := Option.some.inj hj; exact Nat.le_refl _))
            have S11 : Hid (St w.heap.size w w11 g gs gt gts bw k N (usedAt sl) (whereAt sl) sl us9) := Lib.hid (SR.out.below SR.out.size (by rw [HRS.out]; exact B11.out))
            have G11 : Hid (IsWh w.heap.size w11 bg j sz pg Fg) := Lib.hid (GR.out.below (by rw [HRS.out]; exact B11.out))
            have HR1 := Lib.hid hrg1
            have HLT := Lib.hid hlt
            have HSEG : Hid (I64 (seg : Int)) := by show _ ∧ _; omega
            clear hwx hwc hlx hat hrg1 hlt hg1 hs1 hI hh hf hs hk hwh hpos hgone SX GX
            go_wp2_with fail
            refine (mget_yes S11.out.map i _ HS.out).mono ?_
            rintro e w12 ⟨rfl, b12⟩
            have hr11 : r ≤ w11.heap.size := by have := B11.out.size; have := HRS.out; omega
            have B12 := Lib.hid (B11.out.trans (b12.mono hr11))
            have R12 := Lib.hid (HR1.out.kept (belowQ_grown b12) (by simp) (by simp))
            have hr12 : r ≤ w12.heap.size := by have := b12.size; omega
            clear b12 hr11 HR1 B11 S11 G11
            dsimp only
            have n13 := heap_alloc_new w12 (.cells #[.int .i64 (100 + (seg : Int)), .int .u32 ver, .int .i64 lk, .int .i64 kd] 28)
            have B13 := Lib.hid (B12.out.alloc hr12 (.cells #[.int .i64 (100 + (seg : Int)), .int .u32 ver, .int .i64 lk, .int .i64 kd] 28))
            have R13 := Lib.hid (R12.out.alloc (.cells #[.int .i64 (100 + (seg : Int)), .int .u32 ver, .int .i64 lk, .int .i64 kd] 28))
            obtain ⟨gx, hgx⟩ : ∃ x, w12.heap.size = x := ⟨_, rfl⟩
            obtain ⟨w13, hw13⟩ : ∃ x, w12.alloc (.cells #[.int .i64 (100 + (seg : Int)), .int .u32 ver, .int .i64 lk, .int .i64 kd] 28) = x := ⟨_, rfl⟩
            rw [hw13, hgx] at n13
            rw [hw13] at B13 R13
            have x0 : w13.cell? ⟨gx, 0, none⟩ = some (.int .i64 (100 + (seg : Int))) := cell_of_row n13 0
            have G13 : Hid (IsWh w.heap.size w13 bg j sz pg Fg) := Lib.hid (GR.out.below (by rw [HRS.out]; exact B13.out))
            have hsg : (seg : Int) < 9 := by omega
            have hsg0 : (0 : Int) ≤ (seg : Int) := by omega
            clear n13 B12 R12 hr12
            go_wp2_with (at_lookup; refine wpList_wh_look rfl _ _ rfl G13.out rfl _ HSEG.out rfl ?_; rw [HGO.out])
            refine ⟨⟨_, cnt1, R13, Lib.hid fun z hz => HSUB.out z ?_, B13⟩, ?_⟩
            · rw [Bool.and_eq_true] at hz; exact hz.1
            · rw [R13.out.left_eq, HRG.out.left_eq]; exact HLT.out
end Go.Proofs.Ytgakidimipipeaa
