/- ProcSleeps' walk. -/
import Derived.Test.YthainmbapikjiaaSleep2
import Derived.Lib.MinMax
import Derived.Lib.QuietBelow
import Derived.BigQuiet
import Derived.Deep.DeepCutAuto
import Derived.Deep.CutBlock
import Derived.Maps.RangeWalk
namespace Go.Proofs.Ythainmbapikjiaa
open Go.RowKit Go.Sort
set_option linter.unusedVariables false
set_option linter.unusedSimpArgs false
set_option maxRecDepth 100000

set_option maxHeartbeats 1600000 in
theorem procSleeps_walk (a : Option Addr) (cap : Nat) (l : List Int) (a2 : Option Addr) (cap2 : Nat) (l2 : List Int) (w : World) (hr : ReadsI w a l.length l) (hcap : l.length ≤ cap) (hr2 : ReadsI w a2 l2.length l2) (hcap2 : l2.length ≤ cap2) :
    Calls Try.prog 7 #[.slice a l.length cap, .slice a2 l2.length cap2] w fun e w' => e = .returned (.bool true) ∧ Below w.heap.size w w' := by
  have hmk := @run_makeMap Try.prog
  obtain ⟨L, hL⟩ : ∃ L, l.length = L := ⟨_, rfl⟩
  obtain ⟨L2, hL2⟩ : ∃ L, l2.length = L := ⟨_, rfl⟩
  have HLN := Lib.hid hL
  have HLN2 := Lib.hid hL2
  rw [hL] at hcap hr ⊢
  rw [hL2] at hcap2 hr2 ⊢
  have HR := Lib.hid hr
  have HR2 := Lib.hid hr2
  clear hr hr2 hL hL2
  go_enter Try.func7, Try.ntmps7
  go_wp2_with fail
  refine (awake22_true w).mono ?_
  rintro e w1 ⟨rfl, b1⟩
  have B1 := Lib.hid b1
  clear b1
  go_wp2_with fail
  refine (tnew_is 16 16 (by decide) w1).mono ?_
  rintro e w2 ⟨g, gs0, rfl, h2, b2⟩
  obtain ⟨w3, hw3⟩ : ∃ x, w2.alloc (.map #[] 0) = x := ⟨_, rfl⟩
  obtain ⟨bm, hbm⟩ : ∃ x, w2.heap.size = x := ⟨_, rfl⟩
  have k3 : Below w2.heap.size w2 w3 := by rw [← hw3]; exact (Below.refl _ _).alloc (Nat.le_refl _) _
  have B2 : Hid (Below w.heap.size w w2) := Lib.hid (below_next B1.out b2)
  have HS3 : Hid (St22 w w3 g gs0 1 bm 0 0 (newT 16) (fun _ => false) (fun _ => 0)) := by
    refine ⟨(h2.less B1.out.size).below k3, ?_, below_next B2.out k3⟩
    rw [← hw3, ← hbm]
    exact wh_new w2 B2.out.size
  have HI3 : Hid (SlInv (newT 16) (fun _ => false) (fun _ => 0)) := Lib.hid sl_new
  clear h2 b2 k3 B1 B2
  go_upto_block 0 with (fail)
  clear hw3 hbm hmk
  go_cut [7] (fun _ wx => ∃ (k gs cap sz : Nat) (T : TabD) (p : Int → Bool) (F : Int → Int), k ≤ 15 ∧ Hid (St22 w wx g gs cap bm k sz T p F) ∧ Hid (SlInv T p F) ∧ Hid (T.now = 0 ∧ T.last ≤ 100))
  case first =>
    go_wp2_with fail
    go_loopw [7] (fun i wr => ∃ (k gs cap sz : Nat) (T : TabD) (p : Int → Bool) (F : Int → Int), i = .int .i64 (k : Int) ∧ k ≤ 15 ∧ k ≤ L ∧ Hid (St22 w wr g gs cap bm k sz T p F) ∧ Hid (SlInv T p F) ∧ Hid (T.now = 0 ∧ T.last = (k : Int) + 1 ∧ T.list.length = k + 1)) (fun i _ => 15 - (intOf i).toNat)
    case atStart => exact ⟨0, gs0, 1, 0, newT 16, _, _, rfl, by decide, Nat.zero_le _, HS3, HI3, Lib.hid ⟨rfl, rfl, rfl⟩⟩
    case round =>
      obtain ⟨k, gs, cap', sz, T, p, F, rfl, hk1, hk2, HS, HI, HT⟩ := hrel
      clear HS3 HI3
      have hx1 : (0 : Int) ≤ (k : Int) := by omega
      by_cases hlt : k < L
      · by_cases h15 : k < 15
        · have hx2 : (k : Int) < (L : Int) := by omega
          have hx3 : (k : Int) < 15 := by omega
          obtain ⟨x, hx⟩ : ∃ x, l[k]?.getD 0 = x := ⟨_, rfl⟩
          obtain ⟨hpl, rfl | ⟨b, off, rfl, hb, hc⟩⟩ := HR.out
          · exact absurd hpl.symm (by simp only [List.length_nil]; omega)
          have hc0 : w.cell? ⟨b, off + k, none⟩ = some (.int .i64 x) := by rw [← hx]; exact hc k hlt
          have HC0 := Lib.hid hc0
          have HB := Lib.hid hb
          obtain ⟨s1, hf1, hs1⟩ := HI.out.found1
          have hfk := tfork_yes HS.out.tab hf1 hs1 (by rw [HI.out.most, HT.out.2.2]; omega) (by rw [HT.out.2.1]; omega)
          obtain ⟨i2, f2⟩ := sl_fork HI.out
          have HI2 := Lib.hid i2
          have HF2 := Lib.hid f2
          obtain ⟨T2, hT2⟩ : ∃ t, ({ T with last := T.last + 1, list := T.list ++ [babyP (T.last + 1)] } : TabD) = t := ⟨_, rfl⟩
          obtain ⟨q, hq⟩ : ∃ q, T.last + 1 = q := ⟨_, rfl⟩
          have hfk2 : Calls Try.prog 28 #[.pointer (some ⟨g, 0, none⟩), .int .i64 1] wr (TPost w.heap.size wr g gs T2 (.tuple #[.int .i64 q, .int .i64 0])) := by rw [← hT2, ← hq]; exact hfk
          have hq2 : q = (k : Int) + 2 := by rw [← hq, HT.out.2.1]; omega
          have HQ := Lib.hid hq2
          have HT2 : Hid (T2.now = 0 ∧ T2.last = (k : Int) + 1 + 1 ∧ T2.list.length = k + 1 + 1) := Lib.hid (by
            rw [← hT2]
            refine ⟨HT.out.1, by rw [← HT.out.2.1], ?_⟩
            show (T.list ++ [babyP (T.last + 1)]).length = _
            rw [List.length_append, HT.out.2.2]; rfl)
          rw [hT2] at HI2 HF2
          rw [hq] at HF2
          have HFK := Lib.hid hfk2
          clear hfk hfk2 i2 f2 hf1 hs1 hT2 hq hq2 hc0 hb hc hx hpl hlt h15
          go_wp2_with fail
          refine HFK.out.mono ?_
          rintro e w4 ⟨gs4, cap4, rfl, h4, k4⟩
          have S4 := Lib.hid (HS.out.told h4 k4)
          have c0 : w4.cell? ⟨b, off + k, none⟩ = some (.int .i64 x) := (S4.out.bel.cell (p := ⟨b, off + k, none⟩) HB.out).trans HC0.out
          clear h4 k4 HFK HS
          obtain ⟨n0, n1⟩ := nap_of x
          by_cases hn : 0 < max 0 (min x 1048576)
          · have hsl := tsleep_yes S4.out.tab HF2.out (by show ¬ (1 : Int) = 3; decide) (by show ¬ (1 : Int) = 2; decide) (max 0 (min x 1048576)) hn
            have HSL := Lib.hid hsl
            have HN := Lib.hid hn
            have HN1 := Lib.hid n1
            clear hsl
            go_wp2_with fail
            refine HSL.out.mono ?_
            rintro e w5 ⟨gs5, cap5, rfl, h5, k5⟩
            have S5 := Lib.hid (S4.out.told h5 k5)
            have HI5 := Lib.hid (sl_sleep HI2.out HF2.out HT2.out.1 HN.out HN1.out)
            have HQI : Hid (I64 q) := Lib.hid (by have := HQ.out; unfold I64; omega)
            have HNI : Hid (I64 (max 0 (min x 1048576))) := Lib.hid (by unfold I64; omega)
            clear h5 k5 HSL S4
            go_wp2_with (at_mapUpdate; refine wpList_wh_put rfl _ _ _ rfl S5.out.wh rfl (by unfold maxLen; omega) _ HQI.out rfl _ HNI.out rfl ?_; intro w6 a6 g6; have S6 := Lib.hid (S5.out.mapped a6 g6); clear a6 g6)
            go_roundw
            case rel => exact ⟨k + 1, _, _, _, _, _, _, by go_num, by omega, by omega, S6, Lib.hid (HI5.out.same (fun j => Bool.or_comm _ _) (fun _ => rfl)), Lib.hid ⟨HT2.out.1, HT2.out.2.1, by show (T2.list.set _ _).length = _; rw [List.length_set]; exact HT2.out.2.2⟩⟩
            case measure => simp [intOf]; omega
          · have hsl := tsleep_none S4.out.tab HF2.out (by show ¬ (1 : Int) = 3; decide) (by show ¬ (1 : Int) = 2; decide) (max 0 (min x 1048576)) (by omega)
            have HSL := Lib.hid hsl
            clear hsl
            go_wp2_with fail
            refine HSL.out.mono ?_
            rintro e w5 ⟨gs5, cap5, rfl, h5, k5⟩
            have S5 := Lib.hid (S4.out.told h5 k5)
            clear h5 k5 HSL S4
            go_wp2
            go_roundw
            case rel => exact ⟨k + 1, _, _, _, _, _, _, by go_num, by omega, by omega, Lib.hid (S5.out.same (Nat.le_succ k) rfl (fun _ _ => rfl) (fun _ _ => rfl)), HI2, HT2⟩
            case measure => simp [intOf]; omega
        · have hx2 : (k : Int) < (L : Int) := by omega
          have hx3 : ¬ (k : Int) < 15 := by omega
          clear hlt h15
          go_wp2
          go_meet
          exact ⟨k, _, _, _, _, _, _, hk1, HS, HI, Lib.hid ⟨HT.out.1, by rw [HT.out.2.1]; omega⟩⟩
      · have hx2 : ¬ (k : Int) < (L : Int) := by omega
        clear hlt
        go_wp2
        go_meet
        exact ⟨k, _, _, _, _, _, _, hk1, HS, HI, Lib.hid ⟨HT.out.1, by rw [HT.out.2.1]; omega⟩⟩
  case rest =>
    obtain ⟨k0, gs, cap', sz, T, p, F, hk0, HS, HI, HT⟩ := hcut
    clear HS3 HI3 HR
    go_upto_block 1 with (fail)
    go_loopw [11, 12] (fun vn vi wr => ∃ (k gs cap sz : Nat) (T : TabD) (p : Int → Bool) (F : Int → Int) (nw : Int), vn = .int .i64 nw ∧ vi = .int .i64 (k : Int) ∧ k ≤ 30 ∧ k ≤ L2 ∧ Hid (St22 w wr g gs cap bm k0 sz T p F) ∧ Hid (SlInv T p F) ∧ Hid (T.now = nw ∧ 0 ≤ nw ∧ nw ≤ 1048576 * (k : Int) ∧ T.last ≤ 100)) (fun _ i _ => 30 - (intOf i).toNat)
    case atStart => exact ⟨0, gs, cap', sz, T, p, F, 0, rfl, rfl, by decide, Nat.zero_le _, HS, HI, Lib.hid ⟨HT.out.1, by decide, by decide, HT.out.2⟩⟩
    case round =>
      obtain ⟨k, gs', cap'', sz', T', p', F', nw, rfl, rfl, hk1, hk2, HS', HI', HT'⟩ := hrel
      clear HS HI HT
      generalize gs' = gs at *
      generalize cap'' = cap' at *
      have hx1 : (0 : Int) ≤ (k : Int) := by omega
      by_cases hlt : k < L2
      · by_cases h30 : k < 30
        · have hx2 : (k : Int) < (L2 : Int) := by omega
          have hx3 : (k : Int) < 30 := by omega
          obtain ⟨x, hx⟩ : ∃ x, l2[k]?.getD 0 = x := ⟨_, rfl⟩
          obtain ⟨hpl, rfl | ⟨b, off, rfl, hb, hc⟩⟩ := HR2.out
          · exact absurd hpl.symm (by simp only [List.length_nil]; omega)
          have c0 : wr.cell? ⟨b, off + k, none⟩ = some (.int .i64 x) := by rw [← hx]; exact (HS'.out.bel.cell (p := ⟨b, off + k, none⟩) hb).trans (hc k hlt)
          obtain ⟨n0, n1⟩ := nap_of x
          obtain ⟨t0, t1, t2, t3⟩ := HT'.out
          have hnw : nw ≤ 31457280 := by omega
          obtain ⟨x2, hx2e⟩ : ∃ y, nw + max 0 (min x 1048576) = y := ⟨_, rfl⟩
          have haf : afterT T'.now (max 0 (min x 1048576)) = x2 := by unfold afterT; rw [t0]; omega
          have htk := ttick_is HS'.out.tab HI'.out.nodup (max 0 (min x 1048576))
          obtain ⟨D, hD⟩ : ∃ d, thoseL (dueB x2) T'.list = d := ⟨_, rfl⟩
          obtain ⟨hup, hwk⟩ := sl_woken HI'.out (by rw [t0]; exact t1) x2
          have hi2 := sl_tick HI'.out (by rw [t0]; exact t1) haf (by rw [t0]; omega)
          have hD16 : D.length ≤ 16 := by rw [← hD]; unfold thoseL; rw [List.length_map]; exact Nat.le_trans (List.length_filter_le _ _) HS'.out.tab.2.2.2.2.2.2.1
          have HD16 := Lib.hid hD16
          clear hD16
          rw [hD] at hup hwk hi2
          have HTK : Hid (Calls Try.prog 33 #[.pointer (some ⟨g, 0, none⟩), .int .i64 (max 0 (min x 1048576))] wr fun e w' => ∃ v, e = .returned v ∧ OwnsV wr.heap.size w' 3 v (intsV D) ∧ IsTable w.heap.size w' g gs cap' (tickT T' (max 0 (min x 1048576))) ∧ TKeeps g gs wr w') := Lib.hid (by rw [← hD, ← haf]; exact htk)
          have HUP := Lib.hid hup
          have HWK := Lib.hid hwk
          have HI2 := Lib.hid hi2
          have HX2 := Lib.hid hx2e
          have HT2 : Hid ((tickT T' (max 0 (min x 1048576))).now = x2 ∧ 0 ≤ x2 ∧ x2 ≤ 1048576 * ((k : Int) + 1) ∧ (tickT T' (max 0 (min x 1048576))).last ≤ 100) := Lib.hid ⟨haf, by omega, by omega, t3⟩
          have HN := Lib.hid hnw
          have HPI : Hid (∀ d ∈ D, I64 d) := Lib.hid fun d hd => HI'.out.pid (HI'.out.known d (hwk d hd).1) t3
          clear htk hD hup hwk hi2 haf hx2e hc hb hpl hx hlt h30 t0
          go_wp2_with fail
          refine HTK.out.mono ?_
          rintro e w4 ⟨v4, rfl, ho4, h4, k4⟩
          obtain ⟨M, hM⟩ : ∃ m, D.length = m := ⟨_, rfl⟩
          have hil : (intsV D).length = M := by unfold intsV; rw [List.length_map, hM]
          obtain ⟨a3, c3, rfl, hr4, hl4, hl5⟩ := ho4.reads
          rw [hil] at hr4 hl4 ⊢
          have S4 := Lib.hid (HS'.out.told h4 k4)
          have R4 := Lib.hid hr4
          have HM := Lib.hid hM
          obtain ⟨T2, hT2⟩ : ∃ t, tickT T' (max 0 (min x 1048576)) = t := ⟨_, rfl⟩
          rw [hT2] at S4 HT2 HI2
          try rw [HX2.out]
          have hMx : M ≤ maxLen := Nat.le_trans hl4 hl5
          have hmx : (maxLen : Int) = 9223372036854775807 ∨ True := .inr trivial
          clear h4 k4 ho4 hr4 hil hM hT2 HTK HS' HI' HX2 c0 hmx
          generalize max 0 (min x 1048576) = nap at *
          go_upto_block 2 with (fail)
          go_loopw [84] (fun i wx => ∃ (j sz : Nat), i = .int .i64 (j : Int) ∧ j ≤ M ∧ Hid (St22 w wx g gs cap' bm k0 sz T2 (fun k => p' k && !decide (k ∈ D.take j)) (fun k => if k ∈ D.take j then 0 else F' k)) ∧ Hid (ReadsV wx a3 M (intsV D))) (fun i _ => M - (intOf i).toNat)
          case atStart => exact ⟨0, sz', rfl, Nat.zero_le _, Lib.hid (S4.out.same (Nat.le_refl _) rfl (fun j _ => by simp) (fun j _ => by simp)), R4⟩
          case round =>
            obtain ⟨j, sj, rfl, hj, SJ, RJ⟩ := hrel
            clear S4 R4
            have hj0 : (0 : Int) ≤ (j : Int) := by omega
            by_cases hjM : j < M
            · have hjm : (j : Int) < (M : Int) := by omega
              obtain ⟨d, hd⟩ : ∃ d, D[j]? = some d := ⟨_, List.getElem?_eq_getElem (by rw [HM.out]; exact hjM)⟩
              obtain ⟨g3, off3, rfl, hg3, hc3⟩ := RJ.out.at (intsV_at hd)
              obtain ⟨d1, d2, d3⟩ := HWK.out d (List.mem_of_getElem? hd)
              have hny := not_yet HUP.out hd
              obtain ⟨fd, hfd⟩ : ∃ z, F' d = z := ⟨_, rfl⟩
              have HGO : Hid ((if d ∈ D.take j then 0 else F' d) = fd) := Lib.hid (by rw [if_neg hny]; exact hfd)
              have HDI : Hid (I64 d) := Lib.hid (HPI.out d (List.mem_of_getElem? hd))
              have HDD := Lib.hid hd
              rw [hfd] at d2 d3
              clear hfd hny d1 hjM hd
              have q1 : (fd == 0) = false := by simpa using d2
              clear d2
              by_cases hz : j = 0
              · have hz0 : ¬ (0 : Int) < (j : Int) := by omega
                clear hz
                go_wp2_with (first | (at_lookup; refine wpList_wh_look rfl _ _ rfl SJ.out.wh rfl d HDI.out rfl ?_; rw [HGO.out]) | (at_delete; refine wpList_wh_del rfl _ _ rfl SJ.out.wh rfl d HDI.out rfl ?_; intro w7 a7 g7; have S7 := Lib.hid (SJ.out.mapped a7 g7); have R7 := Lib.hid (RJ.out.keptM22 SJ.out.wh g7); clear a7 g7) | fail)
                go_roundw
                case rel => exact ⟨j + 1, _, by go_num, by omega, Lib.hid (S7.out.same (Nat.le_refl _) rfl (fun z _ => cut_p HDD.out p' z) (fun z _ => cut_F HDD.out F' z)), R7⟩
                case measure => simp [intOf]; omega
              · obtain ⟨i, rfl⟩ : ∃ i, j = i + 1 := ⟨j - 1, by omega⟩
                obtain ⟨e0, he0⟩ : ∃ e, D[i]? = some e := ⟨_, List.getElem?_eq_getElem (by rw [HM.out]; omega)⟩
                obtain ⟨g9, o9, e9, _, hc4⟩ := RJ.out.at (intsV_at he0)
                cases e9
                have hlt9 := rise_at HUP.out he0 HDD.out (by omega)
                have hge9 : ¬ d ≤ e0 := by omega
                have hi0 : (0 : Int) ≤ (i : Int) := by omega
                have him : (i : Int) < (M : Int) := by omega
                have hz0 : (0 : Int) < ((i + 1 : Nat) : Int) := by omega
                have hz1 : (0 : Int) < (i : Int) + 1 := by omega
                have hz2 : (i : Int) + 1 < (M : Int) := by omega
                have hib : (i : Int) ≤ 1000000000000000000 := by have := HD16.out; have := HM.out; omega
                clear hz he0 hlt9
                go_wp2_with (first | (at_lookup; refine wpList_wh_look rfl _ _ rfl SJ.out.wh rfl d HDI.out rfl ?_; rw [HGO.out]) | (at_delete; refine wpList_wh_del rfl _ _ rfl SJ.out.wh rfl d HDI.out rfl ?_; intro w7 a7 g7; have S7 := Lib.hid (SJ.out.mapped a7 g7); have R7 := Lib.hid (RJ.out.keptM22 SJ.out.wh g7); clear a7 g7) | fail)
                go_roundw
                case rel => exact ⟨i + 1 + 1, _, by go_num, by omega, Lib.hid (S7.out.same (Nat.le_refl _) rfl (fun z _ => cut_p HDD.out p' z) (fun z _ => cut_F HDD.out F' z)), R7⟩
                case measure => simp [intOf]; omega
            · obtain rfl : j = M := by omega
              have hge : ¬ (j : Int) < (j : Int) := by omega
              have htk : D.take j = D := by rw [← HM.out]; exact List.take_length
              have SE : Hid (St22 w wr g gs cap' bm k0 sj T2 (fun k => p' k && !decide (k ∈ D)) (fun k => if k ∈ D then 0 else F' k)) := Lib.hid (by have := SJ.out; rwa [htk] at this)
              obtain ⟨p2, hp2⟩ : ∃ q, (fun k => p' k && !decide (k ∈ D)) = q := ⟨_, rfl⟩
              obtain ⟨F2, hF2⟩ : ∃ q, (fun k => if k ∈ D then 0 else F' k) = q := ⟨_, rfl⟩
              rw [hp2, hF2] at SE HI2
              obtain ⟨D2, hown, hreads⟩ := SE.out.wh.2
              have HD := Lib.hid hreads
              have HOWN := Lib.hid hown
              clear SJ RJ htk hp2 hF2 hreads hown HPI HWK HUP hjM hj
              go_wp2_with (first | (at_range; refine wpList_range_own _ rfl _ 79 rfl 3 3 lawQ Try.underlying79 _ bm k0 D2 rfl HOWN.out ?_; intro w10 hrg0 hg0 hs0) | fail)
              obtain ⟨r, hr⟩ : ∃ r, wr.heap.size = r := ⟨_, rfl⟩
              generalize wr = ws at *
              have K10 : Hid (Below r ws w10) := Lib.hid ((Below.refl r ws).grown hg0 (Nat.le_of_eq hr.symm) (by intro j hj; cases hj))
              rw [hr] at hrg0 hs0 ⊢
              have HRS := Lib.hid hr
              clear hg0 HOWN hge hr hs0
              go_loopw [17] (fun _ wx => ∃ (left : Lit → Bool) (cnt : Nat), Hid (wx.ranges Try.prog 3 (plainElem Try.prog 3) bm r k0 D2 left cnt) ∧ Hid (∀ z, left z = true → Maps.has D2 z = true) ∧ Hid (Below r ws wx)) (fun _ wx => wx.rangeLeft bm r)
              case atStart => exact ⟨_, _, Lib.hid hrg0, Lib.hid (fun z h => h), K10⟩
              case round =>
                obtain ⟨left, cnt, HRG, HSUB, HBX⟩ := hrel
                clear hrg0 K10
                have SX : Hid (St22 w wr g gs cap' bm k0 sj T2 p2 F2) := Lib.hid (SE.out.below (by rw [HRS.out]; exact HBX.out))
                go_wp2_with (first | (at_next; refine wpList_next_ranges_ii _ rfl _ rfl 3 3 .i64 .i64 lawQ Try.underlying3 Try.underlying3 bm r k0 _ _ _ rfl HRG.out ?_ ?_) | fail)
                · intro _ hl0
                  clear hl0 HRG HSUB HBX
                  go_wp2
                  go_roundw
                  case rel => exact ⟨k + 1, gs, cap', sj, T2, p2, F2, x2, rfl, by go_num, by omega, by omega, SX, HI2, Lib.hid ⟨HT2.out.1, HT2.out.2.1, by have := HT2.out.2.2.1; omega, HT2.out.2.2.2⟩⟩
                  case measure => simp [intOf]; omega
                · intro x c w11 cnt1 hwx hwc hlx hat hrg1 hlt hg1 hs1 hen
                  have hI : I64 x := i64_of_wf hwx
                  obtain ⟨hh, hf⟩ := HD.out.2 x hI
                  rw [HSUB.out _ hlx] at hh
                  rw [hat] at hf
                  injection hf with hf
                  injection hf with _ hf
                  obtain ⟨i, s, f1, f2, f3, f4⟩ := HI2.out.get hh.symm
                  have hc2 : c = F2 x := by rw [hf]
                  subst hc2
                  obtain ⟨pd, pp, ps, pc, pt, pk⟩ := s
                  dsimp only at f2 f3
                  subst f2
                  subst f3
                  have B11 : Hid (Below r ws w11) := Lib.hid (HBX.out.grown hg1 (Nat.le_trans (by rw [HRS.out]; exact Nat.le_refl _) HBX.out.size) (by intro j hj; obtain rfl := Option.some.inj hj; exact Nat.le_refl _))
                  have S11 : Hid (St22 w w11 g gs cap' bm k0 sj T2 p2 F2) := Lib.hid (SE.out.below (by rw [HRS.out]; exact B11.out))
                  have HGT := Lib.hid (tget_yes S11.out.tab f1)
                  have HR1 := Lib.hid hrg1
                  have HLT := Lib.hid hlt
                  have hlate : x2 < F2 x := by rw [← HT2.out.1]; exact f4
                  have hlate2 : ¬ F2 x ≤ x2 := by omega
                  have hself : (F2 x != F2 x) = false := by simp
                  clear hwx hwc hlx hat hrg1 hlt hg1 hs1 hI hh hf SX f1 f4 S11
                  go_wp2_with fail
                  refine HGT.out.mono ?_
                  rintro e w12 ⟨rfl, b12⟩
                  have hr11 : r ≤ w11.heap.size := by have := B11.out.size; have := HRS.out; omega
                  have B12 := Lib.hid (B11.out.trans (b12.mono hr11))
                  have R12 := Lib.hid (HR1.out.kept (belowQ_grown b12) (by simp) (by simp))
                  have hr12 : r ≤ w12.heap.size := by have := b12.size; omega
                  clear b12 hr11 HR1 B11 HGT
                  dsimp only [procA, procV]
                  have n13 := heap_alloc_new w12 (.cells #[.int .i64 pd, .int .i64 pp, .int .i64 2, .int .i64 pc, .int .i64 (F2 x), .bool pk] 75)
                  have B13 := Lib.hid (B12.out.alloc hr12 (.cells #[.int .i64 pd, .int .i64 pp, .int .i64 2, .int .i64 pc, .int .i64 (F2 x), .bool pk] 75))
                  have R13 := Lib.hid (R12.out.alloc (.cells #[.int .i64 pd, .int .i64 pp, .int .i64 2, .int .i64 pc, .int .i64 (F2 x), .bool pk] 75))
                  obtain ⟨gx, hgx⟩ : ∃ z, w12.heap.size = z := ⟨_, rfl⟩
                  obtain ⟨w13, hw13⟩ : ∃ z, w12.alloc (.cells #[.int .i64 pd, .int .i64 pp, .int .i64 2, .int .i64 pc, .int .i64 (F2 x), .bool pk] 75) = z := ⟨_, rfl⟩
                  rw [hw13, hgx] at n13
                  rw [hw13] at B13 R13
                  have y2 : w13.cell? ⟨gx, 2, none⟩ = some (.int .i64 2) := cell_atT n13 2
                  have y4 : w13.cell? ⟨gx, 4, none⟩ = some (.int .i64 (F2 x)) := cell_atT n13 4
                  clear n13 B12 R12 hr12
                  go_wp2_with fail
                  go_roundw
                  case rel =>
                    refine ⟨_, cnt1, R13, Lib.hid fun z hz => HSUB.out z ?_, B13⟩
                    rw [Bool.and_eq_true] at hz; exact hz.1
                  case measure => rw [R13.out.left_eq, HRG.out.left_eq]; exact HLT.out
        · have hx2 : (k : Int) < (L2 : Int) := by omega
          have hx3 : ¬ (k : Int) < 30 := by omega
          obtain ⟨t0, t1, t2, t3⟩ := HT'.out
          clear hlt h30 t1 t2 t3
          go_wp2_with fail
          refine (tnow_is HS'.out.tab).mono ?_
          rintro e w5 ⟨rfl, rfl⟩
          rw [t0]
          clear t0
          go_wp2_with fail
          go_ret
          exact ⟨by simp, HS'.out.bel⟩
      · have hx2 : ¬ (k : Int) < (L2 : Int) := by omega
        obtain ⟨t0, t1, t2, t3⟩ := HT'.out
        clear hlt t1 t2 t3
        go_wp2_with fail
        refine (tnow_is HS'.out.tab).mono ?_
        rintro e w5 ⟨rfl, rfl⟩
        rw [t0]
        clear t0
        go_wp2_with fail
        go_ret
        exact ⟨by simp, HS'.out.bel⟩
end Go.Proofs.Ythainmbapikjiaa
