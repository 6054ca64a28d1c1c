/- FdSets' walk. -/
import Derived.Test.YtbpklbicbeckdaaGkfdpcaig
import Derived.Test.YtbpklbicbeckdaaGfoodhill
import Derived.Deep.DeepCutAuto
import Derived.Deep.CutBlock
namespace Go.Proofs.Ytbpklbicbeckdaa
open Go.ChangeShapes Go.WideShapes Go.ChangeAt Go.RowKit Go.Sort
set_option linter.unusedVariables false
set_option linter.unusedSimpArgs false
set_option maxRecDepth 100000

set_option maxHeartbeats 3200000 in
theorem fdSets_walk (n : Int) (a : Option Addr) (cap : Nat) (l : List Act20D) (w : World) (hr : ReadsR w a 4 (rowsOf act20V l)) (hfit : ∀ u ∈ l, Act20Fits u) (hcap : l.length ≤ cap) :
    Calls Try.prog 6 #[.int .i64 n, .slice a l.length cap] w fun e w' => e = .returned (.bool true) ∧ Below w.heap.size w w' := by
  obtain ⟨L, hL⟩ : ∃ L, l.length = L := ⟨_, rfl⟩
  have HLN := Lib.hid hL
  rw [hL] at hcap ⊢
  have HR := Lib.hid hr
  obtain ⟨m, hm⟩ : ∃ m : Nat, clampF 16 n = (m : Int) := ⟨(clampF 16 n).toNat, by unfold clampF; omega⟩
  have hm16 : m ≤ 16 := by unfold clampF at hm; omega
  have hm1 : 1 ≤ m := by unfold clampF at hm; omega
  have HM := Lib.hid hm
  have HOK : Hid (OkS (List.replicate m (-1))) := Lib.hid ⟨fun x hx => by rw [List.eq_of_mem_replicate hx]; decide, by rw [List.length_replicate]; exact hm1, by rw [List.length_replicate]; exact hm16⟩
  clear hr hfit hL hm
  go_enter Try.func6, Try.ntmps6
  go_wp2_with fail
  refine (awake20_true w).mono ?_
  rintro e w1 ⟨rfl, b1⟩
  have B1 := Lib.hid b1
  clear b1
  go_wp2_with fail
  refine (snew_is n w1 m HM.out).mono ?_
  rintro e w2 ⟨g, gs, sc, rfl, hs, b2⟩
  have HS2 : Hid (IsSet w.heap.size w2 g gs sc (List.replicate m (-1))) := Lib.hid (hs.less B1.out.size)
  have B2 := Lib.hid (below_next B1.out b2)
  clear hs b2
  go_wp2_with fail
  refine (rsnew_is n w2 m HM.out).mono ?_
  rintro e w3 ⟨v, rfl, hrs, b3⟩
  have HFM : Hid (Fam w g gs sc (List.replicate m (-1)) (List.replicate m (-1)) v (.slice none 0 0) (.slice none 0 0) [] w3) := Lib.hid (by
    refine ⟨HS2.out.below b3, hrs.less B2.out.size, ⟨HOK.out, HOK.out⟩, fun e => ?_, fun o ho => by simp at ho, OwnsV.nil _ _ _, OwnsV.nil _ _ _, below_next B2.out b3⟩
    obtain ⟨a9, c9, _, h9⟩ := hrs
    have h1 := (h9.lt gs e).1
    have h2 := (set_lt HS2.out).2.1
    omega)
  clear hrs b3 B1 B2 HS2
  go_upto_block 0 with fail
  go_cut [7, 8] (fun v7 v8 wx => ∃ (g gs sc : Nat) (ids : List Int) (v : Value) (os : List OldD), Hid (Fam w g gs sc ids ids v v7 v8 os wx) ∧ os.length ≤ 60)
  case first =>
    go_wp2_with fail
    go_loopw [5, 6, 7, 8, 9] (fun v5 v6 v7 v8 i wr => ∃ (j g gs sc : Nat) (ids : List Int) (os : List OldD), j ≤ L ∧ j ≤ 60 ∧ v5 = .pointer (some ⟨g, 0, none⟩) ∧ i = .int .i64 (j : Int) ∧ Hid (Fam w g gs sc ids ids v6 v7 v8 os wr) ∧ os.length ≤ j) (fun _ _ _ _ i _ => 60 - (intOf i).toNat)
    case atStart => exact ⟨0, g, gs, sc, _, [], Nat.zero_le _, by decide, rfl, rfl, HFM, Nat.zero_le _⟩
    case round =>
      obtain ⟨j, g, gs, sc, ids, os, hj1, hj2, rfl, rfl, HFA, hos⟩ := hrel
      clear HFM HOK
      generalize u6 = v6 at *
      generalize u7 = v7 at *
      generalize u8 = v8 at *
      by_cases hlt : j < L
      · by_cases h60 : j < 60
        · obtain ⟨⟨kd, x, y, z⟩, hx⟩ : ∃ x, l[j]? = some x := ⟨_, List.getElem?_eq_getElem (by rw [HLN.out]; exact hlt)⟩
          obtain ⟨b, off, rfl, hb, hc⟩ := (HR.out.below HFA.out.below).row (rowsOf_get hx)
          have c0 : wr.cell? ⟨b, off + j * 4, none⟩ = some (.int .i64 kd) := hc 0 _ rfl
          have c1 : wr.cell? ⟨b, off + j * 4 + 1, none⟩ = some (.int .i64 x) := by have := hc 1 _ rfl; rwa [← Nat.add_assoc] at this
          have c2 : wr.cell? ⟨b, off + j * 4 + 2, none⟩ = some (.int .i64 y) := by have := hc 2 _ rfl; rwa [← Nat.add_assoc] at this
          have c3 : wr.cell? ⟨b, off + j * 4 + 3, none⟩ = some (.int .i64 z) := by have := hc 3 _ rfl; rwa [← Nat.add_assoc] at this
          have hx1 : (0 : Int) ≤ (j : Int) := by omega
          have hx2 : (j : Int) < (L : Int) := by omega
          have hx3 : (j : Int) < 60 := by omega
          have HLT := Lib.hid (And.intro hlt (And.intro h60 hos))
          have kb := below_box wr (.cells #[.int .i64 kd, .int .i64 x, .int .i64 y, .int .i64 z] 65)
          have nb := heap_alloc_new wr (.cells #[.int .i64 kd, .int .i64 x, .int .i64 y, .int .i64 z] 65)
          obtain ⟨wb, hwb⟩ : ∃ W, wr.alloc (.cells #[.int .i64 kd, .int .i64 x, .int .i64 y, .int .i64 z] 65) = W := ⟨_, rfl⟩
          rw [hwb] at kb nb
          obtain ⟨gb, hgb⟩ : ∃ x, wr.heap.size = x := ⟨_, rfl⟩
          rw [hgb] at nb
          have HNB := Lib.hid nb
          have HFB := Lib.hid (HFA.out.more kb)
          have d0 := cell_of_row nb 0
          have d1 := cell_of_row nb 1
          have d2 := cell_of_row nb 2
          have d3 := cell_of_row nb 3
          clear hc hx hb kb nb hlt h60 HFA
          by_cases hk : kd = 1
          · subst hk
            obtain ⟨q, hq⟩ : ∃ q, putS ids x = q := ⟨_, rfl⟩
            have HP := Lib.hid (sput_is HFB.out.cur x)
            have HQ := Lib.hid (fun (W : World) (h : RSetP w.heap.size W v6 ids) (hB : w.heap.size ≤ W.heap.size) => rsput_is h hB HFB.out.ok.1 x)
            have HOK2 := Lib.hid (okS_put HFB.out.ok.1 x)
            rw [hq] at HP HOK2
            simp only [hq] at HQ
            clear hq
            obtain ⟨F1, F2, F3⟩ := q
            dsimp only at HP HQ HOK2
            have e1 : (F2 != F2) = false := by simp
            have e2 : (F3 != F3) = false := by simp
            go_wp2_with fail
            refine HP.out.mono ?_
            rintro e w5 ⟨rfl, hs5, g5⟩
            have HF5 := Lib.hid (HFB.out.does hs5 HOK2.out g5)
            have hne : gb ≠ gs := by obtain ⟨cs, hcs⟩ := own_cellsV HFB.out.cur.2.1; exact nblock HNB.out hcs (by decide)
            have nb5 := (g5.block gb (Array.getElem?_eq_some_iff.1 HNB.out).1 (by intro e; exact hne (Option.some.inj e))).trans HNB.out
            have d0 := cell_of_row nb5 0
            have d1 := cell_of_row nb5 1
            have d2 := cell_of_row nb5 2
            have d3 := cell_of_row nb5 3
            clear hs5 g5 hne nb5
            go_wp2_with fail
            refine (HQ.out w5 HF5.out.rv HF5.out.below.size).mono ?_
            rintro e w6 ⟨v7', rfl, hr6, b6, hfr⟩
            have HF6 := Lib.hid (HF5.out.told hr6 HOK2.out b6 hfr)
            clear hr6 b6 hfr
            go_wp2_with fail
            refine (set_true HF6.out.cur HF6.out.rv HOK2.out).mono ?_
            rintro e w9 ⟨rfl, b9⟩
            have HF9 := Lib.hid (HF6.out.more b9)
            clear b9
            go_wp2
            have h1 := HLT.out
            go_roundw
            case rel => exact ⟨j + 1, g, gs, sc, F1, os, HLT.out.1, HLT.out.2.1, rfl, by go_num, HF9, by omega⟩
            case measure => simp [intOf]; omega
          by_cases hk : kd = 2
          · subst hk
            obtain ⟨q, hq⟩ : ∃ q, takeS ids x = q := ⟨_, rfl⟩
            have HP := Lib.hid (stake_is HFB.out.cur x)
            have HQ := Lib.hid (fun (W : World) (h : RSetP w.heap.size W v6 ids) (hB : w.heap.size ≤ W.heap.size) => rstake_is h hB HFB.out.ok.1 x)
            have HOK2 := Lib.hid (okS_take HFB.out.ok.1 x)
            rw [hq] at HP HOK2
            simp only [hq] at HQ
            clear hq
            obtain ⟨F1, F2, F3⟩ := q
            dsimp only at HP HQ HOK2
            have e1 : (F2 != F2) = false := by simp
            have e2 : (F3 != F3) = false := by simp
            go_wp2_with fail
            refine HP.out.mono ?_
            rintro e w5 ⟨rfl, hs5, g5⟩
            have HF5 := Lib.hid (HFB.out.does hs5 HOK2.out g5)
            have hne : gb ≠ gs := by obtain ⟨cs, hcs⟩ := own_cellsV HFB.out.cur.2.1; exact nblock HNB.out hcs (by decide)
            have nb5 := (g5.block gb (Array.getElem?_eq_some_iff.1 HNB.out).1 (by intro e; exact hne (Option.some.inj e))).trans HNB.out
            have d0 := cell_of_row nb5 0
            have d1 := cell_of_row nb5 1
            have d2 := cell_of_row nb5 2
            have d3 := cell_of_row nb5 3
            clear hs5 g5 hne nb5
            go_wp2_with fail
            refine (HQ.out w5 HF5.out.rv HF5.out.below.size).mono ?_
            rintro e w6 ⟨v7', rfl, hr6, b6, hfr⟩
            have HF6 := Lib.hid (HF5.out.told hr6 HOK2.out b6 hfr)
            clear hr6 b6 hfr
            go_wp2_with fail
            refine (set_true HF6.out.cur HF6.out.rv HOK2.out).mono ?_
            rintro e w9 ⟨rfl, b9⟩
            have HF9 := Lib.hid (HF6.out.more b9)
            clear b9
            go_wp2
            have h1 := HLT.out
            go_roundw
            case rel => exact ⟨j + 1, g, gs, sc, F1, os, HLT.out.1, HLT.out.2.1, rfl, by go_num, HF9, by omega⟩
            case measure => simp [intOf]; omega
          by_cases hk : kd = 3
          · subst hk
            obtain ⟨q, hq⟩ : ∃ q, atS ids x y = q := ⟨_, rfl⟩
            have HP := Lib.hid (sat_is HFB.out.cur x y)
            have HQ := Lib.hid (fun (W : World) (h : RSetP w.heap.size W v6 ids) (hB : w.heap.size ≤ W.heap.size) => rsat_is h hB HFB.out.ok.1 x y)
            have HOK2 := Lib.hid (okS_at HFB.out.ok.1 x y)
            rw [hq] at HP HOK2
            simp only [hq] at HQ
            clear hq
            obtain ⟨F1, F2, F3⟩ := q
            dsimp only at HP HQ HOK2
            have e1 : (F2 != F2) = false := by simp
            have e2 : (F3 != F3) = false := by simp
            go_wp2_with fail
            refine HP.out.mono ?_
            rintro e w5 ⟨rfl, hs5, g5⟩
            have HF5 := Lib.hid (HFB.out.does hs5 HOK2.out g5)
            have hne : gb ≠ gs := by obtain ⟨cs, hcs⟩ := own_cellsV HFB.out.cur.2.1; exact nblock HNB.out hcs (by decide)
            have nb5 := (g5.block gb (Array.getElem?_eq_some_iff.1 HNB.out).1 (by intro e; exact hne (Option.some.inj e))).trans HNB.out
            have d0 := cell_of_row nb5 0
            have d1 := cell_of_row nb5 1
            have d2 := cell_of_row nb5 2
            have d3 := cell_of_row nb5 3
            clear hs5 g5 hne nb5
            go_wp2_with fail
            refine (HQ.out w5 HF5.out.rv HF5.out.below.size).mono ?_
            rintro e w6 ⟨v7', rfl, hr6, b6, hfr⟩
            have HF6 := Lib.hid (HF5.out.told hr6 HOK2.out b6 hfr)
            clear hr6 b6 hfr
            go_wp2_with fail
            refine (set_true HF6.out.cur HF6.out.rv HOK2.out).mono ?_
            rintro e w9 ⟨rfl, b9⟩
            have HF9 := Lib.hid (HF6.out.more b9)
            clear b9
            go_wp2
            have h1 := HLT.out
            go_roundw
            case rel => exact ⟨j + 1, g, gs, sc, F1, os, HLT.out.1, HLT.out.2.1, rfl, by go_num, HF9, by omega⟩
            case measure => simp [intOf]; omega
          by_cases hk : kd = 4
          · subst hk
            obtain ⟨a9, c9, e9, _⟩ := HFB.out.rv
            subst e9
            obtain ⟨N, hN⟩ : ∃ N, ids.length = N := ⟨_, rfl⟩
            have HN := Lib.hid hN
            have hpl : (ptrs os).length ≤ 60 := by rw [ptrs_length]; omega
            have hol : (olds os).length ≤ 60 := by rw [olds_length]; omega
            have HPL := Lib.hid (And.intro hpl hol)
            have kp := below_box wb (.cells #[.pointer (some ⟨g, 0, none⟩)] 84)
            have rp := ReadsV.lit wb #[.pointer (some ⟨g, 0, none⟩)] 84
            obtain ⟨wp, hwp⟩ : ∃ W, wb.alloc (.cells #[.pointer (some ⟨g, 0, none⟩)] 84) = W := ⟨_, rfl⟩
            rw [hwp] at kp rp
            obtain ⟨gp, hgp⟩ : ∃ x, wb.heap.size = x := ⟨_, rfl⟩
            rw [hgp] at rp
            have HRP : Hid (ReadsV wp (some ⟨gp, 0, none⟩) 1 [.pointer (some ⟨g, 0, none⟩)]) := Lib.hid rp
            have HHP := Lib.hid (HFB.out.half.more kp)
            have HOKI := Lib.hid HFB.out.ok.1
            rw [hN]
            clear kp rp hpl hol hN
            go_wp2_with (first
              | (at_builtin; refine wpList_append_vals rfl _ _ 87 rfl w.heap.size 84 (.pointer none) 8 Try.underlying87 info_setptr rfl _ (ptrs os) (by rfl) HHP.out.own7 _ _ _ (by rfl) [.pointer (some ⟨g, 0, none⟩)] HRP.out (by intro u hu; simp at hu; subst hu; rfl) (by have := HPL.out.1; simp; omega) (by have := HPL.out.1; unfold maxLen; simp; omega) HHP.out.below.size ?_; intro v7' w7 o7 g7; have HH7 := Lib.hid (HHP.out.push7 o7 g7); have k8 := below_box w7 (.cells #[.slice a9 N c9] 48); have r8 := ReadsV.lit w7 #[.slice a9 N c9] 48; obtain ⟨w8, hw8⟩ : ∃ W, w7.alloc (.cells #[.slice a9 N c9] 48) = W := ⟨_, rfl⟩; rw [hw8] at k8 r8; obtain ⟨g8, hg8⟩ : ∃ x, w7.heap.size = x := ⟨_, rfl⟩; rw [hg8] at r8; have HR8 : Hid (ReadsV w8 (some ⟨g8, 0, none⟩) 1 [.slice a9 N c9]) := Lib.hid r8; have HH8 := Lib.hid (HH7.out.more k8); clear k8 r8 o7 g7)
              | (at_builtin; refine wpList_append_vals rfl _ _ 88 rfl w.heap.size 48 (.slice none 0 0) 24 Try.underlying88 info_ints rfl _ (olds os) (by rfl) HH8.out.own8 _ _ _ (by rfl) [.slice a9 N c9] HR8.out (by intro u hu; simp at hu; subst hu; rfl) (by have := HPL.out.2; simp; omega) (by have := HPL.out.2; unfold maxLen; simp; omega) HH8.out.below.size ?_; intro v8' w9 o9 g9; have HH9 := Lib.hid (HH8.out.push8 o9 g9); clear o9 g9)
              | fail)
            refine (sclone_is HH9.out.cur).mono ?_
            rintro e w10 ⟨g', gs', cap', rfl, hs10, b10⟩
            have HF10 : Hid (Fam w g' gs' cap' ids ids (.slice a9 N c9) v7' v8' (os ++ [⟨g, gs, sc, ids, a9, c9⟩]) w10) := Lib.hid (by
              have hh := HH9.out
              have e1 : ptrs os ++ [.pointer (some ⟨g, 0, none⟩)] = ptrs (os ++ [⟨g, gs, sc, ids, a9, c9⟩]) := by unfold ptrs; rw [List.map_append]; rfl
              have e2 : olds os ++ [.slice a9 N c9] = olds (os ++ [⟨g, gs, sc, ids, a9, c9⟩]) := by unfold olds; rw [List.map_append]; unfold oldV; rw [← HN.out]; rfl
              rw [e1, e2] at hh
              have hn := HN.out
              subst hn
              exact hh.clone HOKI.out hs10 b10)
            clear hs10 b10
            go_wp2_with fail
            refine (set_true HF10.out.cur HF10.out.rv HOKI.out).mono ?_
            rintro e w11 ⟨rfl, b11⟩
            have HF11 := Lib.hid (HF10.out.more b11)
            clear b11
            go_wp2
            have h1 := HLT.out
            go_roundw
            case rel => exact ⟨j + 1, g', gs', cap', ids, os ++ [⟨g, gs, sc, ids, a9, c9⟩], HLT.out.1, HLT.out.2.1, rfl, by go_num, HF11, by rw [List.length_append]; have := HLT.out.2.2; simp; omega⟩
            case measure => simp [intOf]; omega
          go_wp2_with fail
          refine (set_true HFB.out.cur HFB.out.rv HFB.out.ok.1).mono ?_
          rintro e w9 ⟨rfl, b9⟩
          have HF9 := Lib.hid (HFB.out.more b9)
          clear b9
          go_wp2
          have h1 := HLT.out
          go_roundw
          case rel => exact ⟨j + 1, g, gs, sc, ids, os, HLT.out.1, HLT.out.2.1, rfl, by go_num, HF9, by omega⟩
          case measure => simp [intOf]; omega
        · have hx2 : (j : Int) < (L : Int) := by omega
          have hx3 : ¬ (j : Int) < 60 := by omega
          clear hlt h60
          go_wp2_with fail
          go_meet
          exact ⟨g, gs, sc, ids, _, os, HFA, by omega⟩
      · have hx2 : ¬ (j : Int) < (L : Int) := by omega
        clear hlt
        go_wp2_with fail
        go_meet
        exact ⟨g, gs, sc, ids, _, os, HFA, by omega⟩
  case rest =>
    obtain ⟨g, gs, sc, ids, v, os, HFA, hos⟩ := hcut
    generalize u7 = v7 at *
    generalize u8 = v8 at *
    clear HFM HOK
    obtain ⟨a7, c7, rfl, hr7, _, _⟩ := HFA.out.own7.reads
    obtain ⟨a8, c8, rfl, hr8, _, _⟩ := HFA.out.own8.reads
    obtain ⟨N, hN⟩ : ∃ N, os.length = N := ⟨_, rfl⟩
    rw [ptrs_length, hN] at hr7 ⊢
    rw [olds_length, hN] at hr8 ⊢
    have HN := Lib.hid hN
    have HR7 := Lib.hid hr7
    have HR8 := Lib.hid hr8
    clear hr7 hr8
    go_wp2_with fail
    generalize wc = wk at *
    go_loopw [150] (fun i wr => ∃ q : Nat, q ≤ N ∧ i = .int .i64 (q : Int) ∧ Hid (Below wk.heap.size wk wr)) (fun i _ => N - (intOf i).toNat)
    case atStart => exact ⟨0, Nat.zero_le _, rfl, Lib.hid (Below.refl _ _)⟩
    case round =>
      obtain ⟨q, hq, rfl, KR⟩ := hrel
      by_cases hlt : q < N
      · obtain ⟨o, ho⟩ : ∃ o, os[q]? = some o := ⟨_, List.getElem?_eq_getElem (by rw [HN.out]; exact hlt)⟩
        obtain ⟨b7, o7, rfl, _, k7⟩ := (HR7.out.below KR.out).at (show (ptrs os)[q]? = some (.pointer (some ⟨o.g, 0, none⟩)) by unfold ptrs; rw [List.getElem?_map, ho]; rfl)
        obtain ⟨b8, o8, rfl, _, k8⟩ := (HR8.out.below KR.out).at (show (olds os)[q]? = some (.slice o.a o.ids.length o.c) by unfold olds; rw [List.getElem?_map, ho]; rfl)
        obtain ⟨h1, h2, h3, _, _⟩ := HFA.out.old o (List.mem_of_getElem? ho)
        have HST := Lib.hid (set_true (h1.below KR.out) (h2.below KR.out) h3)
        unfold oldV at HST
        have hi0 : (0 : Int) ≤ (q : Int) := by omega
        have hi2 : (q : Int) < (N : Int) := by omega
        have HLT := Lib.hid hlt
        have hq60 : q ≤ 60 := by omega
        clear ho h1 h2 h3 hlt
        go_wp2_with fail
        refine HST.out.mono ?_
        rintro e w9 ⟨rfl, b9⟩
        have K9 := Lib.hid (below_next KR.out b9)
        clear b9 k7 k8
        go_wp2
        have h9 := HLT.out
        go_roundw
        case rel => exact ⟨q + 1, HLT.out, by go_num, K9⟩
        case measure => simp [intOf]; omega
      · obtain rfl : q = N := by omega
        have hi2 : ¬ (q : Int) < (q : Int) := by omega
        have HE := Lib.hid (below_next HFA.out.below KR.out)
        clear hlt
        go_wp2
        go_ret
        exact ⟨rfl, HE.out⟩
end Go.Proofs.Ytbpklbicbeckdaa
