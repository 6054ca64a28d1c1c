/- ProcOrphans' walk. (Printed by wip/gen/orph2.py.) -/
import Derived.Test.YtnengblmcfiajaaGghneibba
import Derived.Test.YtnengblmcfiajaaGoalaeffj
import Derived.Lib.MinMax
import Derived.Deep.DeepCutAuto
import Derived.Deep.CutBlock
import Derived.Deep.RegionWith
namespace Go.Proofs.Ytnengblmcfiajaa
open Go.RowKit Go.Sort
set_option linter.unusedVariables false
set_option linter.unusedSimpArgs false
set_option maxRecDepth 100000

set_option maxHeartbeats 3200000 in
theorem procOrphans_walk (a : Option Addr) (cap : Nat) (l : List Act22D) (who : Int) (w : World) (hr : ReadsR w a 3 (rowsOf act22V l)) (hcap : l.length ≤ cap) :
    Calls Try.prog 4 #[.slice a l.length cap, .int .i64 who] w fun e w' => e = .returned (.bool true) ∧ Below w.heap.size w w' := by
  obtain ⟨L, hL⟩ : ∃ L, l.length = L := ⟨_, rfl⟩
  have HLN := Lib.hid hL
  rw [hL] at hcap ⊢
  have HR := Lib.hid hr
  clear hr hL
  go_enter Try.func4, Try.ntmps4
  go_wp2_with fail
  refine (awake22_true w).mono ?_
  rintro e w1 ⟨rfl, b1⟩
  have B1 := Lib.hid b1
  clear b1
  go_wp2_with fail
  refine (tnew_is 16 16 (by decide) w1).mono ?_
  rintro e w2 ⟨g, gs0, rfl, h2, b2⟩
  have H2 : Hid (IsTable w.heap.size w2 g gs0 1 (newT 16)) := Lib.hid (h2.less B1.out.size)
  have B2 := Lib.hid (below_next B1.out b2)
  clear h2 b2
  go_wp2_with fail
  refine (rtnew_is 16 16 (by decide) w2).mono ?_
  rintro e w3 ⟨v3, rfl, hr3, b3⟩
  obtain ⟨a3, c3, rfl, ho3, hok3⟩ := hr3
  have kx := below_box w3 (.cells #[.slice a3 (newT 16).list.length c3, .int .i64 (newT 16).most, .int .i64 (newT 16).last, .int .i64 (newT 16).now] 28)
  have nx : BoxR _ w3.heap.size _ _ _ _ := heap_alloc_new w3 (.cells #[.slice a3 (newT 16).list.length c3, .int .i64 (newT 16).most, .int .i64 (newT 16).last, .int .i64 (newT 16).now] 28)
  have HS3 : Hid (Or22 w w3 g gs0 1 (newT 16) (newT 16) a3 c3) := Lib.hid ⟨H2.out.below b3, ⟨a3, c3, rfl, ho3.less B2.out.size, hok3⟩, below_next B2.out b3⟩
  unfold rtabV
  obtain ⟨w4, hw4⟩ : ∃ X, w3.alloc (.cells #[.slice a3 (newT 16).list.length c3, .int .i64 (newT 16).most, .int .i64 (newT 16).last, .int .i64 (newT 16).now] 28) = X := ⟨_, rfl⟩
  rw [hw4] at kx nx
  obtain ⟨g6, hg6⟩ : ∃ X, w3.heap.size = X := ⟨_, rfl⟩
  rw [hg6] at nx
  have HS4 := Lib.hid (HS3.out.below kx)
  have HB4 := Lib.hid nx
  have HG6 : Hid (w.heap.size ≤ g6) := Lib.hid (by rw [← hg6]; exact HS3.out.bel.size)
  have HI4 : Hid (TrInv (newT 16)) := Lib.hid (tr_new (by decide))
  have HT4 : Hid ((newT 16).last ≤ 1 + 0 ∧ (newT 16).most = 16) := Lib.hid ⟨by decide, rfl⟩
  obtain ⟨T0, hT0⟩ : ∃ T, newT 16 = T := ⟨_, rfl⟩
  rw [hT0] at HS4 HB4 HI4 HT4 hw4 ⊢
  clear kx nx ho3 hok3 b3 HS3 H2 B2 B1 hT0
  go_upto_block 0 with (fail)
  clear hw4 hg6
  go_cut [7] (fun _ wx => ∃ (gs cp : Nat) (T : TabD) (a : Option Addr) (c : Nat), Hid (Or22 w wx g gs cp T T a c) ∧ Hid (BoxR wx g6 (.slice a T.list.length c) T.most T.last T.now) ∧ Hid (TrInv T) ∧ Hid (T.last ≤ 61 ∧ T.most = 16))
  case first =>
    go_wp2_with fail
    go_loopw [7] (fun i wr => ∃ (k : Nat) (gs cp : Nat) (T : TabD) (a : Option Addr) (c : Nat), i = .int .i64 (k : Int) ∧ k ≤ 60 ∧ k ≤ L ∧ Hid (Or22 w wr g gs cp T T a c) ∧ Hid (BoxR wr g6 (.slice a T.list.length c) T.most T.last T.now) ∧ Hid (TrInv T) ∧ Hid (T.last ≤ 1 + (k : Int) ∧ T.most = 16)) (fun i _ => 60 - (intOf i).toNat)
    case atStart => exact ⟨0, gs0, 1, T0, a3, c3, rfl, by decide, Nat.zero_le _, HS4, HB4, HI4, HT4⟩
    case round =>
      obtain ⟨k, gs, cp, T, at_, c, rfl, hk1, hk2, HS, HBX, HI, HT⟩ := hrel
      clear HS4 HB4 HI4 HT4
      have hx1 : (0 : Int) ≤ (k : Int) := by omega
      obtain ⟨⟨t0, t1, t2, t3⟩, tf, _⟩ := HBX.out.cells
      by_cases hlt : k < L
      · by_cases h60 : k < 60
        · have hx2 : (k : Int) < (L : Int) := by omega
          have hx3 : (k : Int) < 60 := by omega
          obtain ⟨⟨kd, x, y⟩, hx⟩ : ∃ x, l[k]? = some x := ⟨_, List.getElem?_eq_getElem (by rw [HLN.out]; exact hlt)⟩
          obtain ⟨b, off, rfl, hb, hc⟩ := (HR.out.below HS.out.bel).row (rowsOf_get hx)
          have d0 : wr.cell? ⟨b, off + k * 3, none⟩ = some (.int .i64 kd) := hc 0 _ rfl
          have d1 : wr.cell? ⟨b, off + k * 3 + 1, none⟩ = some (.int .i64 x) := by have := hc 1 _ rfl; rwa [← Nat.add_assoc] at this
          have d2 : wr.cell? ⟨b, off + k * 3 + 2, none⟩ = some (.int .i64 y) := by have := hc 2 _ rfl; rwa [← Nat.add_assoc] at this
          have kz := below_box wr (.cells #[.slice none 0 0, .int .i64 0, .int .i64 0, .int .i64 0] 28)
          have e0 := (kz.cell (p := ⟨b, off + k * 3, none⟩) hb).trans d0
          have e1 := (kz.cell (p := ⟨b, off + k * 3 + 1, none⟩) hb).trans d1
          have e2 := (kz.cell (p := ⟨b, off + k * 3 + 2, none⟩) hb).trans d2
          have HZ : Hid (BoxR (wr.alloc (.cells #[.slice none 0 0, .int .i64 0, .int .i64 0, .int .i64 0] 28)) wr.heap.size (.slice none 0 0) 0 0 0) := Lib.hid (heap_alloc_new wr _)
          have HZ2 : Hid (BoxR (wr.alloc (.cells #[.slice none 0 0, .int .i64 0, .int .i64 0, .int .i64 0] 28)).drew wr.heap.size (.slice none 0 0) 0 0 0) := Lib.hid (HZ.out.below (below_drew _))
          obtain ⟨⟨f0, f1, f2, f3⟩, _, _⟩ := (HBX.out.below kz).cells
          obtain ⟨T', hT'⟩ : ∃ X, doF T kd x y = X := ⟨_, rfl⟩
          have HI' : Hid (TrInv T') := Lib.hid (by rw [← hT']; exact tr_do HI.out kd x y)
          have HT'' : Hid (T'.last ≤ 1 + ((k + 1 : Nat) : Int) ∧ T'.most = 16) := Lib.hid (by
            obtain ⟨m1, m2, _⟩ := do_most T kd x y
            rw [← hT']
            exact ⟨by have := HT.out.1; omega, m1.trans HT.out.2⟩)
          have HDO := Lib.hid (fun (W : World) (hW : Below wr.heap.size wr W) => do22_any (HS.out.below hW).tab (HS.out.below hW).ref (Nat.le_trans HS.out.bel.size hW.size) HI.out HI.out (by have := HT.out.1; omega) (by have := HT.out.1; omega) kd x y)
          simp only [hT'] at HDO
          unfold rtabV at HDO
          have HLT := Lib.hid (And.intro hlt h60)
          have HSW := Lib.hid (fun (W : World) (hW : Below wr.heap.size wr W) => HS.out.below hW)
          have HBW := Lib.hid (fun (W : World) (hW : Below wr.heap.size wr W) => HBX.out.below hW)
          have HG7 : Hid (g6 < wr.heap.size) := Lib.hid HBX.out.cells.2.2
          clear hc hx hb kz hlt h60 hT'
          go_upto_region 7 with fail
          go_cut [8, 9] (fun v8 v9 wc => ∃ (gs' cp' a' c' g8 : _), v8 = .pointer (some ⟨g8, 0, none⟩) ∧ v9 = .bool true ∧ Hid (Or22B w wc g gs' cp' g6 g8 T' T' T a' at_ c' c))
          case first =>
            go_region_with ((go_at_call 10; (with_reducible refine (HDO.out _ (by first | exact below_drew _ | exact below_box _ _ | exact below_next (below_box _ _) (below_drew _) | exact below_next (below_drew _) (below_box _ _))).mono ?_); rintro e wi ⟨gs', cp', v', z, rfl, hT5, hR5, hz5, hK5⟩; obtain rfl : z = true := hz5 rfl; obtain ⟨a', c', rfl, ho5, hok5⟩ := hR5; have hR6 : RTab w.heap.size wi (rtabV a' T'.list.length c' T') T' := ⟨a', c', rfl, ho5, hok5⟩; unfold rtabV; first | (have hkk := or22_kept (HSW.out _ (by first | exact below_drew _ | exact below_box _ _ | exact below_next (below_box _ _) (below_drew _) | exact below_next (below_drew _) (below_box _ _))) (HBW.out _ (by first | exact below_drew _ | exact below_box _ _ | exact below_next (below_box _ _) (below_drew _) | exact below_next (below_drew _) (below_box _ _))) HG6.out HZ2.out HG7.out hT5 hR6 hK5; obtain ⟨⟨m0, m1, m2, m3⟩, mf, W', hW', HF⟩ := hkk) | (have HF := Lib.hid (or22_made (HSW.out _ (by first | exact below_drew _ | exact below_box _ _ | exact below_next (below_box _ _) (below_drew _) | exact below_next (below_drew _) (below_box _ _))) (HBW.out _ (by first | exact below_drew _ | exact below_box _ _ | exact below_next (below_box _ _) (below_drew _) | exact below_next (below_drew _) (below_box _ _))) HG6.out hT5 hR6 hK5))))
            all_goals (go_wp2_with fail)
            all_goals go_meet
            all_goals exact ⟨gs', cp', a', c', _, rfl, rfl, HF⟩
          case rest =>
            obtain ⟨gs', cp', a', c', g8, rfl, rfl, HF⟩ := hcut
            clear HDO HSW HBW HS HBX HZ HZ2 d0 d1 d2 e0 e1 e2 f0 f1 f2 f3 t0 t1 t2 t3 tf
            obtain ⟨⟨t0, t1, t2, t3⟩, _, _⟩ := HF.out.new.cells
            obtain ⟨⟨r0, r1, r2, r3⟩, rf, _⟩ := HF.out.old.cells
            obtain ⟨W', hW', HT2⟩ := HF.out.turn
            go_wp2
            have h9 := HLT.out
            go_roundw
            case rel => exact ⟨k + 1, gs', cp', T', a', c', by go_num, HLT.out.2, HLT.out.1, Lib.hid HT2.out.1, Lib.hid HT2.out.2, HI', HT''⟩
            case measure => simp [intOf]; omega
        · have hx2 : (k : Int) < (L : Int) := by omega
          have hx3 : ¬ (k : Int) < 60 := by omega
          clear hlt h60
          go_wp2
          go_meet
          exact ⟨gs, cp, T, at_, c, HS, HBX, HI, Lib.hid ⟨by have := HT.out.1; omega, HT.out.2⟩⟩
      · have hx2 : ¬ (k : Int) < (L : Int) := by omega
        clear hlt
        go_wp2
        go_meet
        exact ⟨gs, cp, T, at_, c, HS, HBX, HI, Lib.hid ⟨by have := HT.out.1; omega, HT.out.2⟩⟩
  case rest =>
    obtain ⟨gs, cp, T, at_, c, HS, HBX, HI, HT⟩ := hcut
    clear HS4 HB4 HI4 HT4 HR HBX
    have htab := HS.out.tab
    have HB := Lib.hid HS.out.bel
    have HTB := Lib.hid htab
    have hlen1 := htab.2.2.2.2.2.1
    have hlen2 := htab.2.2.2.2.2.2.1
    clear htab HS
    go_wp2_with fail
    refine (tpids_is HTB.out).mono ?_
    rintro e w5 ⟨v5, rfl, o5, b5⟩
    obtain ⟨a5, c5, rfl, hr5, _, _⟩ := o5.reads
    have HT5 := Lib.hid (HTB.out.below b5)
    have HB5 := Lib.hid (below_next HB.out b5)
    clear HTB HB b5 o5
    obtain ⟨N, hN⟩ : ∃ N, T.list.length = N := ⟨_, rfl⟩
    rw [hN] at hlen1 hlen2
    rw [intsV_length, show (pidsL T.list).length = N from by unfold pidsL; rw [List.length_map]; exact hN] at hr5 ⊢
    obtain ⟨k, hk, hkN, t1, t2⟩ := turn22 who N (by omega)
    obtain ⟨s, hs⟩ : ∃ s, T.list[k]? = some s := ⟨_, List.getElem?_eq_getElem (by rw [hN]; exact hkN)⟩
    have hpk : (intsV (pidsL T.list))[k]? = some (.int .i64 s.pid) := ints_get (by unfold pidsL; rw [List.getElem?_map, hs]; rfl)
    obtain ⟨b7, o7, rfl, _, k7⟩ := hr5.at hpk
    have HFD := Lib.hid (show Found T s.pid k s from ⟨findI_nodup HI.out.nodup hs, hs⟩)
    have hN0 : (0 : Int) < (N : Int) := by omega
    have hNz : ¬ (N : Int) = 0 := by omega
    have hN7 : (N : Int) ≤ 16 := by omega
    have hk0 : (0 : Int) ≤ (k : Int) := by omega
    have hk9 : (k : Int) < (N : Int) := by omega
    clear hr5 hN hs hpk hlen1 hlen2
    go_upto_region 13 with fail
    have HMEM := Lib.hid (List.mem_of_getElem? HFD.out.2)
    obtain ⟨s0, s1, s2, s3, s4, s5⟩ := s
    clear hk hkN t1 t2 k7 hN0 hNz hN7 hk0 hk9
    go_wp2_with fail
    refine (tchildren_is HT5.out s0).mono ?_
    rintro e w6 ⟨v6, rfl, o6, b6⟩
    obtain ⟨a6, c6, rfl, _, _, _⟩ := o6.reads
    have HT6 := Lib.hid (HT5.out.below b6)
    have HB6 := Lib.hid (below_next HB5.out b6)
    have HO6 := Lib.hid (o6.less HB5.out.size)
    clear HT5 HB5 b6 o6
    go_wp2_with fail
    refine (tget_yes HT6.out HFD.out).mono ?_
    rintro e w7 ⟨rfl, b7⟩
    unfold procA procV
    have kx := below_box w7 (.cells #[.int .i64 s0, .int .i64 s1, .int .i64 s2, .int .i64 s3, .int .i64 s4, .bool s5] 40)
    have nx := heap_alloc_new w7 (.cells #[.int .i64 s0, .int .i64 s1, .int .i64 s2, .int .i64 s3, .int .i64 s4, .bool s5] 40)
    obtain ⟨w8, hw8⟩ : ∃ X, w7.alloc (.cells #[.int .i64 s0, .int .i64 s1, .int .i64 s2, .int .i64 s3, .int .i64 s4, .bool s5] 40) = X := ⟨_, rfl⟩
    rw [hw8] at kx nx
    have HT8 := Lib.hid ((HT6.out.below b7).below kx)
    have HB8 := Lib.hid (below_next (below_next HB6.out b7) kx)
    have HO8 := Lib.hid ((HO6.out.below b7).below kx)
    obtain ⟨gq, hgq⟩ : ∃ X, w7.heap.size = X := ⟨_, rfl⟩
    rw [hgq] at nx
    have HNQ := Lib.hid nx
    have HGQ : Hid (g ≠ gq ∧ gs ≠ gq) := Lib.hid (by have h1 := table_lt (HT6.out.below b7); rw [hgq] at h1; omega)
    have HP := Lib.hid (pexit_is HT8.out HI.out s0 3)
    clear HT6 HB6 HO6 b7 kx nx
    have q2 := cell_atT HNQ.out 2
    rcases exitF_cases HFD.out 3 with ⟨h3, he⟩ | ⟨h3, h1, he⟩ | ⟨h3, h1, he⟩
    · rw [he] at HP
      dsimp only at HP h3
      subst h3
      by_cases h1 : s0 = 1
      · have hb1 : (s0 == 1) = true := by simpa using h1
        clear he h1
        go_wp2_with fail
        refine HP.out.mono ?_
        rintro e w9 ⟨gs9, cp9, rfl, h9, k9⟩
        have HB9 := Lib.hid (k9.below HB8.out HB8.out.size HT8.out.2.2.1 (table_lt HT8.out).2.2)
        have q2' := (cell_atT ((k9.block gq (Array.getElem?_eq_some_iff.1 HNQ.out).1 (fun e => HGQ.out.1 e.symm) (fun e => HGQ.out.2 e.symm)).trans HNQ.out) 2)
        clear k9 h9 q2
        go_wp2
        go_ret
        exact ⟨rfl, HB9.out⟩
      · have hb1 : (s0 == 1) = false := by simpa using h1
        clear he h1
        go_wp2_with fail
        refine HP.out.mono ?_
        rintro e w9 ⟨gs9, cp9, rfl, h9, k9⟩
        have HB9 := Lib.hid (k9.below HB8.out HB8.out.size HT8.out.2.2.1 (table_lt HT8.out).2.2)
        have q2' := (cell_atT ((k9.block gq (Array.getElem?_eq_some_iff.1 HNQ.out).1 (fun e => HGQ.out.1 e.symm) (fun e => HGQ.out.2 e.symm)).trans HNQ.out) 2)
        clear k9 h9 q2
        go_wp2
        go_ret
        exact ⟨rfl, HB9.out⟩
    · rw [he] at HP
      subst h1
      clear he h3
      go_wp2_with fail
      refine HP.out.mono ?_
      rintro e w9 ⟨gs9, cp9, rfl, h9, k9⟩
      have HB9 := Lib.hid (k9.below HB8.out HB8.out.size HT8.out.2.2.1 (table_lt HT8.out).2.2)
      have q2' := (cell_atT ((k9.block gq (Array.getElem?_eq_some_iff.1 HNQ.out).1 (fun e => HGQ.out.1 e.symm) (fun e => HGQ.out.2 e.symm)).trans HNQ.out) 2)
      clear k9 h9 q2
      go_wp2
      go_ret
      exact ⟨rfl, HB9.out⟩
    · rw [he] at HP
      have h255 : bits .and .i64 3 255 = 3 := by rw [and255]; decide
      rw [h255] at HP he
      dsimp only at HP h3
      obtain ⟨T9, hT9⟩ : ∃ X : TabD, { T with list := endL s0 3 T.list } = X := ⟨_, rfl⟩
      rw [hT9] at HP
      have HT9 := Lib.hid hT9
      have HN1 := Lib.hid (And.intro h1 h3)
      clear he h3 h1 h255 hT9 q2
      go_wp2_with fail
      refine HP.out.mono ?_
      rintro e w9 ⟨gs9, cp9, rfl, h9, k9⟩
      have HB9 := Lib.hid (k9.below HB8.out HB8.out.size HT8.out.2.2.1 (table_lt HT8.out).2.2)
      have HNQ9 := Lib.hid ((k9.block gq (Array.getElem?_eq_some_iff.1 HNQ.out).1 (fun e => HGQ.out.1 e.symm) (fun e => HGQ.out.2 e.symm)).trans HNQ.out)
      have HTB9 := Lib.hid h9
      have HO9 := Lib.hid (HO8.out.keptTK HT8.out k9 (by decide) (by decide))
      clear k9 h9 HP HB8 HT8 HO8 HNQ hw8 hgq
      obtain ⟨M, hM⟩ : ∃ M, (intsV (thoseL (parentB s0) T.list)).length = M := ⟨_, rfl⟩
      have HM := Lib.hid hM
      have hM16 : M ≤ 16 := by
        rw [← hM, intsV_length]
        have h1 : (thoseL (parentB s0) T.list).length ≤ T.list.length := by unfold thoseL; rw [List.length_map]; exact List.length_filter_le _ _
        have h2 := HI.out.room
        have h3 := HT.out.2
        omega
      rw [hM]
      clear hM
      go_wp2
      go_loopw [92] (fun i wr => ∃ j : Nat, j ≤ M ∧ i = .int .i64 j ∧ Hid (Below w9.heap.size w9 wr)) (fun i _ => M - (intOf i).toNat)
      case atStart => exact ⟨0, Nat.zero_le _, rfl, Lib.hid (Below.refl _ _)⟩
      case round =>
        obtain ⟨j, hj, rfl, HW⟩ := hrel
        have hx1 : (0 : Int) ≤ (j : Int) := by omega
        have HTR := Lib.hid (HTB9.out.below HW.out)
        have HBR := Lib.hid (below_next HB9.out HW.out)
        by_cases hlt : j < M
        · obtain ⟨d, hd⟩ : ∃ d, (thoseL (parentB s0) T.list)[j]? = some d := ⟨_, List.getElem?_eq_getElem (by have := HM.out; rw [intsV_length] at this; omega)⟩
          obtain ⟨a9, c9, e9, hr9, _, _⟩ := (HO9.out.below HW.out).reads
          cases e9
          obtain ⟨b9, o9, rfl, _, k9⟩ := hr9.at (ints_get hd)
          have HD := Lib.hid (List.mem_of_getElem? hd)
          have hx2 : (j : Int) < (M : Int) := by omega
          have HLT := Lib.hid hlt
          clear hr9 hd hlt
          rcases found_or T9 d with ⟨hno, _⟩ | ⟨i, x, hfx, hxp, _⟩
          · have HGT := Lib.hid (tget_no HTR.out hno)
            clear hno
            go_wp2_with fail
            refine HGT.out.mono ?_
            rintro e w10 ⟨rfl, b10⟩
            unfold procA procV zeroT
            have HW10 := Lib.hid (below_next HW.out b10)
            have y1 := cell_atT (heap_alloc_new w10 (.cells #[.int .i64 0, .int .i64 0, .int .i64 0, .int .i64 0, .int .i64 0, .bool false] 40)) 1
            clear b10 k9
            go_wp2
            have h9 := HLT.out
            go_roundw
            case rel => exact ⟨j + 1, HLT.out, by go_num, Lib.hid (below_next HW10.out (below_box _ _))⟩
            case measure => simp [intOf]; omega
          · have hxm : x.parent = 1 := by
              have h9 := HT9.out
              have h8 := List.mem_of_getElem? hfx.2
              rw [← h9] at h8
              exact end_kids HI.out HN1.out.1 h8 hxp HD.out
            have HGT := Lib.hid (tget_yes HTR.out hfx)
            obtain ⟨x0, x1, x2, x3, x4, x5⟩ := x
            dsimp only at hxm
            subst hxm
            clear hfx hxp
            go_wp2_with fail
            refine HGT.out.mono ?_
            rintro e w10 ⟨rfl, b10⟩
            unfold procA procV
            have HW10 := Lib.hid (below_next HW.out b10)
            have y1 := cell_atT (heap_alloc_new w10 (.cells #[.int .i64 x0, .int .i64 1, .int .i64 x2, .int .i64 x3, .int .i64 x4, .bool x5] 40)) 1
            clear b10 k9
            go_wp2
            have h9 := HLT.out
            go_roundw
            case rel => exact ⟨j + 1, HLT.out, by go_num, Lib.hid (below_next HW10.out (below_box _ _))⟩
            case measure => simp [intOf]; omega
        · obtain rfl : j = M := by omega
          have hx2 : ¬ (j : Int) < (j : Int) := by omega
          clear hlt hj
          have HNR := Lib.hid ((HW.out.block gq (Array.getElem?_eq_some_iff.1 HNQ9.out).1).trans HNQ9.out)
          have y1 := cell_atT HNR.out 1
          by_cases h1 : s1 = 1
          · have hno : findI T9.list s0 = -1 := by
              rw [← HT9.out]
              exact end_gone HI.out HN1.out.1 HMEM.out rfl h1 T.most T.last T.now
            have HGT := Lib.hid (tget_no HTR.out hno)
            subst h1
            clear hno
            go_wp2_with fail
            refine HGT.out.mono ?_
            rintro e w10 ⟨rfl, b10⟩
            unfold procA procV zeroT
            have kb := below_next b10 (below_box w10 (.cells #[.int .i64 0, .int .i64 0, .int .i64 0, .int .i64 0, .int .i64 0, .bool false] 40))
            have nq := (kb.block gq (Array.getElem?_eq_some_iff.1 HNR.out).1).trans HNR.out
            have z1 := cell_atT nq 1
            have HCH := Lib.hid (tchildren_is (HTR.out.below kb) s0)
            have HB11 := Lib.hid (below_next HBR.out kb)
            have yq := cell_atT ((b10.block gq (Array.getElem?_eq_some_iff.1 HNR.out).1).trans HNR.out) 1
            clear b10 kb nq y1
            go_wp2_with fail
            refine HCH.out.mono ?_
            rintro e w12 ⟨v12, rfl, o12, b12⟩
            obtain ⟨a12, c12, rfl, _, _, _⟩ := o12.reads
            have hz0 : (intsV (thoseL (parentB s0) T9.list)).length = 0 := by
              rw [← HT9.out]
              show (intsV (thoseL (parentB s0) (endL s0 3 T.list))).length = 0
              rw [end_childless s0 3 T.list HN1.out.1]
              rfl
            rw [hz0]
            have HB12 := Lib.hid (below_next HB11.out b12)
            clear o12 b12 hz0
            go_wp2
            go_ret
            exact ⟨rfl, HB12.out⟩
          · obtain ⟨iz, hfz⟩ : ∃ i, Found T9 s0 i (endP s0 3 ⟨s0, s1, s2, s3, s4, s5⟩) := by
              rw [← HT9.out]
              exact end_there HI.out HN1.out.1 (alive_of HI.out HFD.out HN1.out.2 rfl) HMEM.out rfl h1 T.most T.last T.now
            have HGT := Lib.hid (tget_yes HTR.out hfz)
            unfold endP at HGT
            dsimp only at HGT
            have hb1 : (s1 == 1) = false := by simpa using h1
            clear hfz h1
            go_wp2_with fail
            refine HGT.out.mono ?_
            rintro e w10 ⟨rfl, b10⟩
            unfold procA procV
            go_upto_region 25 with fail
            have kb := below_next b10 (below_box w10 (.cells #[.int .i64 s0, .int .i64 s1, .int .i64 3, .int .i64 3, .int .i64 0, .bool false] 40))
            have nb := heap_alloc_new w10 (.cells #[.int .i64 s0, .int .i64 s1, .int .i64 3, .int .i64 3, .int .i64 0, .bool false] 40)
            have nq := (kb.block gq (Array.getElem?_eq_some_iff.1 HNR.out).1).trans HNR.out
            obtain ⟨w11, hw11⟩ : ∃ X, w10.alloc (.cells #[.int .i64 s0, .int .i64 s1, .int .i64 3, .int .i64 3, .int .i64 0, .bool false] 40) = X := ⟨_, rfl⟩
            rw [hw11] at kb nb nq ⊢
            clear hw11
            have z1 := cell_atT nq 1
            obtain ⟨gz, hgz⟩ : ∃ X, w10.heap.size = X := ⟨_, rfl⟩
            rw [hgz] at nb ⊢
            have HGZ := Lib.hid (show gq < gz from by rw [← hgz]; exact Nat.lt_of_lt_of_le (Array.getElem?_eq_some_iff.1 HNR.out).1 b10.size)
            clear hgz
            have v1 := cell_atT nb 1
            have v2 := cell_atT nb 2
            have v3 := cell_atT nb 3
            have HCH := Lib.hid (tchildren_is (HTR.out.below kb) s0)
            have HB11 := Lib.hid (below_next HBR.out kb)
            clear b10 kb nb nq y1
            go_wp2_with fail
            refine HCH.out.mono ?_
            rintro e w12 ⟨v12, rfl, o12, b12⟩
            obtain ⟨a12, c12, rfl, _, _, _⟩ := o12.reads
            have hz0 : (intsV (thoseL (parentB s0) T9.list)).length = 0 := by
              rw [← HT9.out]
              show (intsV (thoseL (parentB s0) (endL s0 3 T.list))).length = 0
              rw [end_childless s0 3 T.list HN1.out.1]
              rfl
            rw [hz0]
            have HB12 := Lib.hid (below_next HB11.out b12)
            clear o12 b12 hz0
            go_wp2
            go_ret
            exact ⟨rfl, HB12.out⟩
end Go.Proofs.Ytnengblmcfiajaa
