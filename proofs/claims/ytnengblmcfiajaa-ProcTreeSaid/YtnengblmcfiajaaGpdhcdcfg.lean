/- ProcTree's walk. (Printed by wip/gen/tree3.py.) -/
import Derived.Test.YtnengblmcfiajaaGghneibba
import Derived.Test.YtnengblmcfiajaaGoalaeffj
import Derived.Lib.MinMax
import Derived.Deep.DeepCutAuto
import Derived.Deep.CutBlock
import Derived.Deep.RegionWith
namespace Go.Proofs.Ytnengblmcfiajaa
open Go.RowKit Go.Sort
set_option linter.unusedVariables false
set_option linter.unusedSimpArgs false
set_option maxRecDepth 100000

theorem do_last {T : TabD} {kd : Int} (h : kd ≠ 0) (x y : Int) : (doF T kd x y).last = T.last := by
  unfold doF exitF waitF killF sleepF tickT
  rw [if_neg h]
  repeat' split
  all_goals rfl
theorem fork_cases (T : TabD) (x : Int) : ((forkF T x).1 = T ∧ (forkF T x).2.2 ≠ 0) ∨ ((forkF T x).1.last = T.last + 1 ∧ (forkF T x).1.most = T.most ∧ (forkF T x).2.1 = T.last + 1 ∧ (forkF T x).2.2 = 0) := by
  unfold forkF
  split
  · exact .inl ⟨rfl, show (18 : Int) ≠ 0 by decide⟩
  · split
    · exact .inl ⟨rfl, show (15 : Int) ≠ 0 by decide⟩
    · exact .inr ⟨rfl, rfl, rfl, rfl⟩
theorem rise22 {D : List Int} (h : D.Pairwise (· < ·)) {i j : Nat} {x y : Int} (hi : D[i]? = some x) (hj : D[j]? = some y) (hij : i < j) : x < y := by
  obtain ⟨h1, rfl⟩ := List.getElem?_eq_some_iff.1 hi
  obtain ⟨h2, rfl⟩ := List.getElem?_eq_some_iff.1 hj
  exact List.pairwise_iff_getElem.1 h i j h1 h2 hij
theorem pids_get {l : List ProcD} {j : Nat} {s : ProcD} (h : l[j]? = some s) : (pidsL l)[j]? = some s.pid := by unfold pidsL; rw [List.getElem?_map, h]; rfl
set_option maxHeartbeats 3200000 in
theorem procTree_walk (most : Int) (a : Option Addr) (cap : Nat) (l : List Act22D) (w : World) (hr : ReadsR w a 3 (rowsOf act22V l)) (hcap : l.length ≤ cap) :
    Calls Try.prog 3 #[.int .i64 most, .slice a l.length cap] w fun e w' => e = .returned (.bool true) ∧ Below w.heap.size w w' := by
  obtain ⟨L, hL⟩ : ∃ L, l.length = L := ⟨_, rfl⟩
  have HLN := Lib.hid hL
  rw [hL] at hcap ⊢
  have HR := Lib.hid hr
  obtain ⟨m, hm⟩ : ∃ m, min (max most 1) 16 = m := ⟨_, rfl⟩
  have HM : Hid (max 1 (min most 16) = m ∧ 1 ≤ m ∧ m ≤ 16) := Lib.hid (by omega)
  have HMM := Lib.hid hm
  clear hr hL hm
  go_enter Try.func3, Try.ntmps3
  go_wp2_with fail
  refine (awake22_true w).mono ?_
  rintro e w1 ⟨rfl, b1⟩
  have B1 := Lib.hid b1
  clear b1
  go_wp2_with fail
  refine (tnew_is most m HMM.out w1).mono ?_
  rintro e w2 ⟨g, gs0, rfl, h2, b2⟩
  have H2 : Hid (IsTable w.heap.size w2 g gs0 1 (newT m)) := Lib.hid (h2.less B1.out.size)
  have B2 := Lib.hid (below_next B1.out b2)
  clear h2 b2
  go_wp2_with fail
  refine (rtnew_is most m HMM.out w2).mono ?_
  rintro e w3 ⟨v3, rfl, hr3, b3⟩
  obtain ⟨a3, c3, rfl, ho3, hok3⟩ := hr3
  have kx := below_box w3 (.cells #[.slice a3 (newT m).list.length c3, .int .i64 (newT m).most, .int .i64 (newT m).last, .int .i64 (newT m).now] 28)
  have nx : BoxR _ w3.heap.size _ _ _ _ := heap_alloc_new w3 (.cells #[.slice a3 (newT m).list.length c3, .int .i64 (newT m).most, .int .i64 (newT m).last, .int .i64 (newT m).now] 28)
  have HS3 : Hid (Or22 w w3 g gs0 1 (newT m) (newT m) a3 c3) := Lib.hid ⟨H2.out.below b3, ⟨a3, c3, rfl, ho3.less B2.out.size, hok3⟩, below_next B2.out b3⟩
  unfold rtabV
  obtain ⟨w4, hw4⟩ : ∃ X, w3.alloc (.cells #[.slice a3 (newT m).list.length c3, .int .i64 (newT m).most, .int .i64 (newT m).last, .int .i64 (newT m).now] 28) = X := ⟨_, rfl⟩
  rw [hw4] at kx nx
  obtain ⟨g6, hg6⟩ : ∃ X, w3.heap.size = X := ⟨_, rfl⟩
  rw [hg6] at nx
  have HS4 := Lib.hid (HS3.out.below kx)
  have HB4 := Lib.hid nx
  have HG6 : Hid (w.heap.size ≤ g6) := Lib.hid (by rw [← hg6]; exact HS3.out.bel.size)
  have HI0 : Hid (TrInv (newT m)) := Lib.hid (tr_new HM.out.2.1)
  have HT4 : Hid ((newT m).last = 1 ∧ (newT m).most = m) := Lib.hid ⟨rfl, rfl⟩
  obtain ⟨T0, hT0⟩ : ∃ T, newT m = T := ⟨_, rfl⟩
  rw [hT0] at HS4 HB4 HI0 HT4 hw4 ⊢
  clear kx nx ho3 hok3 b3 HS3 H2 B2 B1 hT0
  go_upto_block 0 with (fail)
  clear hw4 hg6
  go_cut [7] (fun _ wx => Hid (Below w.heap.size w wx))
  case first =>
    go_wp2_with fail
    go_loopw [7, 8] (fun v i wr => ∃ (k : Nat) (gs cp : Nat) (T : TabD), i = .int .i64 (k : Int) ∧ v = .int .i64 T.last ∧ k ≤ 80 ∧ k ≤ L ∧ Hid (Or22 w wr g gs cp T T0 a3 c3) ∧ Hid (BoxR wr g6 (.slice a3 T0.list.length c3) T0.most T0.last T0.now) ∧ Hid (TrInv T) ∧ Hid (T.last ≤ 1 + (k : Int) ∧ T.most = m)) (fun _ i _ => 80 - (intOf i).toNat)
    case atStart => exact ⟨0, gs0, 1, T0, rfl, by rw [HT4.out.1], by decide, Nat.zero_le _, HS4, HB4, HI0, Lib.hid ⟨by rw [HT4.out.1]; decide, HT4.out.2⟩⟩
    case round =>
      obtain ⟨k, gs, cp, T, rfl, rfl, hk1, hk2, HS, HBX, HI, HT⟩ := hrel
      clear HS4 HB4
      have hx1 : (0 : Int) ≤ (k : Int) := by omega
      obtain ⟨⟨t0, t1, t2, t3⟩, tf, _⟩ := HBX.out.cells
      by_cases hlt : k < L
      · by_cases h80 : k < 80
        · have hx2 : (k : Int) < (L : Int) := by omega
          have hx3 : (k : Int) < 80 := by omega
          obtain ⟨⟨kd, x, y⟩, hx⟩ : ∃ x, l[k]? = some x := ⟨_, List.getElem?_eq_getElem (by rw [HLN.out]; exact hlt)⟩
          obtain ⟨b, off, rfl, hb, hc⟩ := (HR.out.below HS.out.bel).row (rowsOf_get hx)
          have d0 : wr.cell? ⟨b, off + k * 3, none⟩ = some (.int .i64 kd) := hc 0 _ rfl
          have d1 : wr.cell? ⟨b, off + k * 3 + 1, none⟩ = some (.int .i64 x) := by have := hc 1 _ rfl; rwa [← Nat.add_assoc] at this
          have d2 : wr.cell? ⟨b, off + k * 3 + 2, none⟩ = some (.int .i64 y) := by have := hc 2 _ rfl; rwa [← Nat.add_assoc] at this
          have HLT := Lib.hid (And.intro hlt h80)
          clear hc hx hb hlt h80
          go_upto_if 38 with (fail)
          go_cut [7] (fun v7 wc => ∃ (gs' cp' : Nat) (T' : TabD), v7 = .int .i64 T'.last ∧ Hid (Or22 w wc g gs' cp' T' T0 a3 c3) ∧ Hid (BoxR wc g6 (.slice a3 T0.list.length c3) T0.most T0.last T0.now) ∧ Hid (TrInv T') ∧ Hid (T'.last ≤ 1 + ((k + 1 : Nat) : Int) ∧ T'.most = m))
          case first =>
            by_cases hk : kd = 0
            · subst hk
              have HP := Lib.hid (pfork_is HS.out.tab x (by have := HT.out.1; omega))
              have hI' := tr_fork HI.out x
              have hfc := fork_cases T x
              have hw9 : IntKind.i64.wrap (T.last + 1) = T.last + 1 := IntWalk.i64_in _ (by have h1 := HT.out.1; have h2 := HS.out.tab.2.2.2.2.2.2.2.2.2; omega)
              obtain ⟨A, hA⟩ : ∃ A, forkF T x = A := ⟨_, rfl⟩
              rw [hA] at HP hI' hfc
              obtain ⟨S, n, e⟩ := A
              dsimp only at HP hI' hfc
              have HIS := Lib.hid hI'
              clear hA hI'
              rcases hfc with ⟨h1, h2⟩ | ⟨h1, h2, h3, h4⟩
              · subst h1
                have heb : (e == 0) = false := by simpa using h2
                clear h2
                go_wp2_with fail
                refine HP.out.mono ?_
                rintro e5 w5 ⟨gs5, cp5, rfl, h5, k5⟩
                have HS5 := Lib.hid (HS.out.told h5 (HS.out.ref.keptTK HS.out.tab k5) k5)
                have HB5 := Lib.hid (boxR_told HS.out.tab HBX.out k5)
                clear h5 k5
                go_wp2_with fail
                go_meet
                exact ⟨gs5, cp5, S, rfl, HS5, HB5, HIS, Lib.hid ⟨by have := HT.out.1; omega, HT.out.2⟩⟩
              · subst h4
                have hne : (n != T.last + 1) = false := by simpa using h3
                have HSL := Lib.hid (And.intro h1 (And.intro h2 h3))
                clear h1 h2 h3
                go_wp2_with fail
                refine HP.out.mono ?_
                rintro e5 w5 ⟨gs5, cp5, rfl, h5, k5⟩
                have HS5 := Lib.hid (HS.out.told h5 (HS.out.ref.keptTK HS.out.tab k5) k5)
                have HB5 := Lib.hid (boxR_told HS.out.tab HBX.out k5)
                clear h5 k5
                go_wp2_with fail
                go_meet
                exact ⟨gs5, cp5, S, by rw [HSL.out.1, HSL.out.2.2], HS5, HB5, HIS, Lib.hid ⟨by rw [HSL.out.1]; have := HT.out.1; omega, HSL.out.2.1.trans HT.out.2⟩⟩
            · have hkb : (kd == 0) = false := by simpa using hk
              have HDO := Lib.hid (fun (W : World) (hW : Below wr.heap.size wr W) => do22_any (HS.out.below hW).tab (HS.out.below hW).ref (Nat.le_trans HS.out.bel.size hW.size) HI.out HI0.out (by have := HT.out.1; omega) (by rw [HT4.out.1]; decide) kd x y)
              have HI' : Hid (TrInv (doF T kd x y)) := Lib.hid (tr_do HI.out kd x y)
              have HLS : Hid ((doF T kd x y).last = T.last ∧ (doF T kd x y).most = T.most) := Lib.hid ⟨do_last hk x y, (do_most T kd x y).1⟩
              have HSD := Lib.hid (HS.out.below (below_drew wr))
              have HBD := Lib.hid (HBX.out.below (below_drew wr))
              unfold rtabV at HDO
              clear hk
              go_upto_region 15 with fail
              go_region_with ((go_at_call 10; (with_reducible refine (HDO.out _ (below_drew _)).mono ?_); rintro e5 wi ⟨gs5, cp5, v5, z, rfl, h5, r5, hz5, k5⟩; have HS5 := Lib.hid (HSD.out.told h5 (HSD.out.ref.keptTK HSD.out.tab k5) k5); have HB5 := Lib.hid (boxR_told HSD.out.tab HBD.out k5)))
              all_goals (go_wp2_with fail)
              all_goals go_meet
              all_goals exact ⟨gs5, cp5, doF T kd x y, by rw [HLS.out.1], HS5, HB5, HI', Lib.hid ⟨by rw [HLS.out.1]; have := HT.out.1; omega, HLS.out.2.trans HT.out.2⟩⟩
          case rest =>
            obtain ⟨gs', cp', T', rfl, HS5, HB5, HI5, HT5⟩ := hcut
            clear HS HBX HI HT d0 d1 d2 t0 t1 t2 t3 tf
            generalize gs' = gs at *
            generalize cp' = cp at *
            obtain ⟨TL, hTL⟩ : ∃ z, T'.last = z := ⟨_, rfl⟩
            rw [hTL]
            have HTL := Lib.hid hTL
            clear hTL
            go_wp2_with fail
            refine (tpids_is HS5.out.tab).mono ?_
            rintro e w5 ⟨v5, rfl, o5, b5⟩
            obtain ⟨a5, c5, rfl, hr5, _, _⟩ := o5.reads
            have HS6 := Lib.hid (HS5.out.below b5)
            have HB6 := Lib.hid (HB5.out.below b5)
            have HR5 := Lib.hid hr5
            obtain ⟨N, hN⟩ : ∃ N, T'.list.length = N := ⟨_, rfl⟩
            have HN := Lib.hid hN
            have hN1 : 1 ≤ N := by have := HI5.out.len; omega
            have hN16 : (N : Int) ≤ m := by have := HI5.out.room; have := HT5.out.2; omega
            rw [intsV_length, show (pidsL T'.list).length = N from by unfold pidsL; rw [List.length_map]; exact hN] at HR5 ⊢
            obtain ⟨s, l', e0, s1, s2⟩ := HI5.out.first
            have hp0 : (intsV (pidsL T'.list))[0]? = some (.int .i64 1) := by rw [e0]; unfold pidsL intsV; rw [List.map_cons, List.map_cons, s1]; rfl
            obtain ⟨b7, o7, rfl, hb7, k7⟩ := HR5.out.at hp0
            rw [Nat.add_zero] at k7
            have hN0 : ((N : Int) == 0) = false := by simp; omega
            have hNp : (0 : Int) < (N : Int) := by omega
            have hgt : ¬ (max 1 (min most 16) : Int) < (N : Int) := by rw [HM.out.1]; omega
            have HB7 := Lib.hid hb7
            have HN16 := Lib.hid (show N ≤ 16 by have := HM.out.2.2; omega)
            clear HS5 HB5 hr5 o5 b5 hN hN16 e0 s1 s2 hp0 hb7
            go_wp2
            go_loopw [84] (fun i wr => ∃ j : Nat, j ≤ N ∧ i = .int .i64 j ∧ Hid (Below w5.heap.size w5 wr)) (fun i _ => N - (intOf i).toNat)
            case atStart => exact ⟨0, Nat.zero_le _, rfl, Lib.hid (Below.refl _ _)⟩
            case round =>
              obtain ⟨j, hj, rfl, HW⟩ := hrel
              clear k7
              have hy1 : (0 : Int) ≤ (j : Int) := by omega
              have HSR := Lib.hid (HS6.out.below HW.out)
              by_cases hjl : j < N
              · obtain ⟨s, hs⟩ : ∃ s, T'.list[j]? = some s := ⟨_, List.getElem?_eq_getElem (by rw [HN.out]; exact hjl)⟩
                have HSJ := Lib.hid hs
                obtain ⟨b9, o9, e9, hb9, k9⟩ := (HR5.out.below HW.out).at (ints_get (pids_get hs))
                cases e9
                have HFD := Lib.hid (show Found T' s.pid j s from ⟨findI_nodup HI5.out.nodup hs, hs⟩)
                have HPAR := Lib.hid (HI5.out.par s (List.mem_of_getElem? hs))
                obtain ⟨p0, p1, p2, p3, p4, p5⟩ := s
                dsimp only at HPAR HFD k9
                have hy2 : (j : Int) < (N : Int) := by omega
                have hj16 : (j : Int) ≤ 16 := by have := HN16.out; omega
                have HJL := Lib.hid hjl
                have HGT := Lib.hid (tget_yes HSR.out.tab HFD.out)
                have hp9 : (0 < j) → ∃ q, wr.cell? ⟨b7, o7 + (j - 1), none⟩ = some (.int .i64 q) ∧ q < p0 := fun h0 => by
                  obtain ⟨t, ht⟩ : ∃ s, T'.list[j - 1]? = some s := ⟨_, List.getElem?_eq_getElem (by rw [HN.out]; omega)⟩
                  obtain ⟨_, _, e8, _, k8⟩ := (HR5.out.below HW.out).at (ints_get (pids_get ht))
                  cases e8
                  exact ⟨t.pid, k8, rise22 HI5.out.up (pids_get ht) (pids_get HSJ.out) (by omega)⟩
                have HP9 := Lib.hid hp9
                clear hs hb9 hjl hp9
                have hpre : j = 0 ∨ ∃ i, j = i + 1 := by cases j with | zero => exact .inl rfl | succ i => exact .inr ⟨i, rfl⟩
                rcases hpre with rfl | ⟨i, rfl⟩
                · rw [Nat.add_zero] at k9
                  go_wp2_with fail
                  refine HGT.out.mono ?_
                  rintro e w10 ⟨rfl, b10⟩
                  unfold procA procV
                  have kb := below_next b10 (below_box w10 (.cells #[.int .i64 p0, .int .i64 p1, .int .i64 p2, .int .i64 p3, .int .i64 p4, .bool p5] 40))
                  have nb := heap_alloc_new w10 (.cells #[.int .i64 p0, .int .i64 p1, .int .i64 p2, .int .i64 p3, .int .i64 p4, .bool p5] 40)
                  have y1 := cell_atT nb 1
                  have y2 := cell_atT nb 2
                  have HKB := Lib.hid kb
                  have HNB := Lib.hid nb
                  clear b10 kb nb k9
                  by_cases hp : p0 = 1
                  · have hpb : (p0 == 1) = true := by simpa using hp
                    clear hp
                    go_wp2
                    have h9 := HJL.out
                    go_roundw
                    case rel => exact ⟨0 + 1, HJL.out, by go_num, Lib.hid (below_next HW.out HKB.out)⟩
                    case measure => simp [intOf]; omega
                  · have hpb : (p0 == 1) = false := by simpa using hp
                    obtain ⟨⟨u, hu, hup, hus⟩, hlt2, hnz⟩ := HPAR.out hp
                    obtain ⟨iu, hiu⟩ := List.getElem?_of_mem hu
                    have hfu : Found T' p1 iu u := ⟨by rw [← hup]; exact findI_nodup HI5.out.nodup hiu, hiu⟩
                    have HGU := Lib.hid (tget_yes (HSR.out.tab.below HKB.out) hfu)
                    obtain ⟨u0, u1, u2, u3, u4, u5⟩ := u
                    dsimp only at hus
                    have hub : (u2 == 3) = false := by simpa using hus
                    have hle : ¬ p0 ≤ p1 := by omega
                    have hpz : (p2 == 3) = false ∨ ((p2 == 3) = true ∧ (p1 == 1) = false) := by
                      by_cases h3 : p2 = 3
                      · exact .inr ⟨by simpa using h3, by simpa using fun h1 => hnz ⟨h3, h1⟩⟩
                      · exact .inl (by simpa using h3)
                    clear hu hup hus hnz hiu hfu hp hlt2
                    go_wp2_with fail
                    refine HGU.out.mono ?_
                    rintro e w12 ⟨rfl, b12⟩
                    unfold procA procV
                    have n12 := (b12.block w10.heap.size (Array.getElem?_eq_some_iff.1 HNB.out).1).trans HNB.out
                    have kb2 := below_box w12 (.cells #[.int .i64 u0, .int .i64 u1, .int .i64 u2, .int .i64 u3, .int .i64 u4, .bool u5] 40)
                    have n13 := (kb2.block w10.heap.size (Array.getElem?_eq_some_iff.1 n12).1).trans n12
                    have x1 := cell_atT n13 1
                    have x2 := cell_atT n13 2
                    have x1' := cell_atT n12 1
                    have x2' := cell_atT n12 2
                    have z2 := cell_atT (heap_alloc_new w12 (.cells #[.int .i64 u0, .int .i64 u1, .int .i64 u2, .int .i64 u3, .int .i64 u4, .bool u5] 40)) 2
                    have HK2 := Lib.hid (below_next (below_next HKB.out b12) kb2)
                    clear b12 n12 kb2 n13 y1 y2
                    rcases hpz with hz | ⟨hz, hz2⟩
                    · go_wp2
                      have h9 := HJL.out
                      go_roundw
                      case rel => exact ⟨0 + 1, HJL.out, by go_num, Lib.hid (below_next HW.out HK2.out)⟩
                      case measure => simp [intOf]; omega
                    · go_wp2
                      have h9 := HJL.out
                      go_roundw
                      case rel => exact ⟨0 + 1, HJL.out, by go_num, Lib.hid (below_next HW.out HK2.out)⟩
                      case measure => simp [intOf]; omega
                · have HB79 : Hid (b7 < wr.heap.size) := Lib.hid (Nat.lt_of_lt_of_le HB7.out HW.out.size)
                  go_wp2_with fail
                  refine HGT.out.mono ?_
                  rintro e w10 ⟨rfl, b10⟩
                  unfold procA procV
                  have kb := below_next b10 (below_box w10 (.cells #[.int .i64 p0, .int .i64 p1, .int .i64 p2, .int .i64 p3, .int .i64 p4, .bool p5] 40))
                  have nb := heap_alloc_new w10 (.cells #[.int .i64 p0, .int .i64 p1, .int .i64 p2, .int .i64 p3, .int .i64 p4, .bool p5] 40)
                  have y1 := cell_atT nb 1
                  have y2 := cell_atT nb 2
                  have HKB := Lib.hid kb
                  have HNB := Lib.hid nb
                  obtain ⟨q, hq1, hq2⟩ := HP9.out (Nat.succ_pos i)
                  rw [Nat.add_sub_cancel] at hq1
                  have hq3 := (HKB.out.cell (p := ⟨b7, o7 + i, none⟩) (HB79.out)).trans hq1
                  have hq4 : ¬ p0 ≤ q := by omega
                  have hi0 : (0 : Int) ≤ (i : Int) := by omega
                  have hi1 : (i : Int) < (N : Int) := by omega
                  have hi2 : (i : Int) ≤ 16 := by omega
                  have hw9 : IntKind.i64.wrap ((i : Int) + 1 - 1) = (i : Int) := by rw [IntWalk.i64_in _ (by omega)]; omega
                  clear hq2
                  clear b10 kb nb k9
                  by_cases hp : p0 = 1
                  · have hpb : (p0 == 1) = true := by simpa using hp
                    clear hp
                    go_wp2
                    have h9 := HJL.out
                    go_roundw
                    case rel => exact ⟨(i + 1) + 1, HJL.out, by go_num, Lib.hid (below_next HW.out HKB.out)⟩
                    case measure => simp [intOf]; omega
                  · have hpb : (p0 == 1) = false := by simpa using hp
                    obtain ⟨⟨u, hu, hup, hus⟩, hlt2, hnz⟩ := HPAR.out hp
                    obtain ⟨iu, hiu⟩ := List.getElem?_of_mem hu
                    have hfu : Found T' p1 iu u := ⟨by rw [← hup]; exact findI_nodup HI5.out.nodup hiu, hiu⟩
                    have HGU := Lib.hid (tget_yes (HSR.out.tab.below HKB.out) hfu)
                    obtain ⟨u0, u1, u2, u3, u4, u5⟩ := u
                    dsimp only at hus
                    have hub : (u2 == 3) = false := by simpa using hus
                    have hle : ¬ p0 ≤ p1 := by omega
                    have hpz : (p2 == 3) = false ∨ ((p2 == 3) = true ∧ (p1 == 1) = false) := by
                      by_cases h3 : p2 = 3
                      · exact .inr ⟨by simpa using h3, by simpa using fun h1 => hnz ⟨h3, h1⟩⟩
                      · exact .inl (by simpa using h3)
                    clear hu hup hus hnz hiu hfu hp hlt2
                    go_wp2_with fail
                    refine HGU.out.mono ?_
                    rintro e w12 ⟨rfl, b12⟩
                    unfold procA procV
                    have n12 := (b12.block w10.heap.size (Array.getElem?_eq_some_iff.1 HNB.out).1).trans HNB.out
                    have kb2 := below_box w12 (.cells #[.int .i64 u0, .int .i64 u1, .int .i64 u2, .int .i64 u3, .int .i64 u4, .bool u5] 40)
                    have n13 := (kb2.block w10.heap.size (Array.getElem?_eq_some_iff.1 n12).1).trans n12
                    have x1 := cell_atT n13 1
                    have x2 := cell_atT n13 2
                    have x1' := cell_atT n12 1
                    have x2' := cell_atT n12 2
                    have z2 := cell_atT (heap_alloc_new w12 (.cells #[.int .i64 u0, .int .i64 u1, .int .i64 u2, .int .i64 u3, .int .i64 u4, .bool u5] 40)) 2
                    have HK2 := Lib.hid (below_next (below_next HKB.out b12) kb2)
                    clear b12 n12 kb2 n13 y1 y2
                    rcases hpz with hz | ⟨hz, hz2⟩
                    · go_wp2
                      have h9 := HJL.out
                      go_roundw
                      case rel => exact ⟨(i + 1) + 1, HJL.out, by go_num, Lib.hid (below_next HW.out HK2.out)⟩
                      case measure => simp [intOf]; omega
                    · go_wp2
                      have h9 := HJL.out
                      go_roundw
                      case rel => exact ⟨(i + 1) + 1, HJL.out, by go_num, Lib.hid (below_next HW.out HK2.out)⟩
                      case measure => simp [intOf]; omega
              · obtain rfl : j = N := by omega
                have hy2 : ¬ (j : Int) < (j : Int) := by omega
                clear hjl
                go_wp2
                have h9 := HLT.out
                go_roundw
                case rel => exact ⟨k + 1, gs, cp, T', by go_num, by rw [HTL.out], HLT.out.2, HLT.out.1, Lib.hid (HS6.out.below HW.out), Lib.hid (HB6.out.below HW.out), HI5, HT5⟩
                case measure => simp [intOf]; omega
        · have hx2 : (k : Int) < (L : Int) := by omega
          have hx3 : ¬ (k : Int) < 80 := by omega
          clear hlt h80
          go_wp2
          go_meet
          exact Lib.hid HS.out.bel
      · have hx2 : ¬ (k : Int) < (L : Int) := by omega
        clear hlt
        go_wp2
        go_meet
        exact Lib.hid HS.out.bel
  case rest =>
    go_wp2
    go_ret
    exact ⟨rfl, hcut.out⟩
end Go.Proofs.Ytnengblmcfiajaa
