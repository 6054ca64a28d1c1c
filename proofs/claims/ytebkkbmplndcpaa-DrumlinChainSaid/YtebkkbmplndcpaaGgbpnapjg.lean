/- DrumlinChain's walk. (Printed by wip/gen/chain5.py.) -/
import Derived.Test.YtebkkbmplndcpaaGijmnanpd
import Derived.Test.YtebkkbmplndcpaaGfejnbdhb
import Derived.Test.YtebkkbmplndcpaaGmjahiacl
import Derived.Test.YtebkkbmplndcpaaGfgjigmgo
import Derived.Lib.MinMax
import Derived.Lib.QuietBelow
import Derived.BigQuiet
import Derived.Deep.DeepCutAuto
import Derived.Deep.CutBlock
import Derived.Deep.RegionWith
import Derived.Maps.RangeWalk
namespace Go.Proofs.Ytebkkbmplndcpaa
open Go.RowKit Go.Sort
set_option linter.unusedVariables false
set_option linter.unusedSimpArgs false
set_option maxRecDepth 100000

def turnV (x : Int × Int) : List Value := [.int .i64 x.1, .int .i64 x.2]
set_option maxHeartbeats 3200000 in
theorem drumlinChain_walk (a : Option Addr) (cap : Nat) (l : List (Int × Int)) (w : World) (hr : ReadsR w a 2 (rowsOf turnV l)) (hcap : l.length ≤ cap) :
    Calls Try.prog 5 #[.slice a l.length cap] w fun e w' => e = .returned (.bool true) ∧ Below w.heap.size w w' := by
  have hmk := @run_makeMap Try.prog
  obtain ⟨L, hL⟩ : ∃ L, l.length = L := ⟨_, rfl⟩
  have HLN := Lib.hid hL
  rw [hL] at hcap ⊢
  have HR := Lib.hid hr
  clear hr hL
  go_enter Try.func5, Try.ntmps5
  go_wp2_with fail
  refine (tnew_is 8 8 (by decide) w).mono ?_
  rintro e w1 ⟨g, gs0, rfl, h1, b1⟩
  have H1 := Lib.hid h1
  have B1 := Lib.hid b1
  clear h1 b1
  go_wp2_with fail
  refine (fnew_is 8 w1 8 (by decide)).mono ?_
  rintro e w2 ⟨gf, gfs, rfl, h2, b2⟩
  have H2 := Lib.hid h2
  have B2 := Lib.hid b2
  clear h2 b2
  go_wp2_with fail
  refine (pnew_is 2 (by decide) (by decide) w2).mono ?_
  rintro e w3 ⟨gp, gps, rfl, h3, b3⟩
  have H3 := Lib.hid h3
  have B3 := Lib.hid b3
  clear h3 b3
  go_wp2_with fail
  obtain ⟨w4, hw4⟩ : ∃ X, (w3.alloc (.cells #[.pointer (some ⟨gf, 0, none⟩)] 48)).alloc (.cells #[.pointer (some ⟨gp, 0, none⟩)] 50) = X := ⟨_, rfl⟩
  obtain ⟨n4, n5, k4⟩ := two_boxes w3 #[.pointer (some ⟨gf, 0, none⟩)] #[.pointer (some ⟨gp, 0, none⟩)] 48 50
  rw [hw4] at n4 n5 k4
  have B3' := below_next (below_next B1.out B2.out) B3.out
  have HS4 : Hid (C0 w w4 gf gfs gp gps g gs0 1 w3.heap.size (w3.heap.size + 1) (List.replicate 8 zeroF) (List.replicate 2 zeroP) (newT 8)) :=
    Lib.hid ⟨((H2.out.less B1.out.size).below B3.out).below k4, (H3.out.less (below_next B1.out B2.out).size).below k4, ((H1.out.below B2.out).below B3.out).below k4, n4, n5, below_next B3' k4⟩
  rw [hw4]
  obtain ⟨q1, hq1⟩ : ∃ X, w3.heap.size = X := ⟨_, rfl⟩
  rw [hq1] at HS4 ⊢
  obtain ⟨q2, hq2⟩ : ∃ X, q1 + 1 = X := ⟨_, rfl⟩
  rw [hq2] at HS4 ⊢
  clear hw4 k4 n4 n5 B3' hq1 hq2 H1 H2 H3 B1 B2 B3
  refine (pmake_yes HS4.out.pipes 0 zeroP (by decide) rfl).mono ?_
  rintro e w5 ⟨rfl, h5, g5⟩
  have HS5 := Lib.hid (HS4.out.piped h5 g5)
  have c0 := cell_of_row HS5.out.bf 0
  clear h5 g5 HS4
  go_wp2_with fail
  have ho := fopen_is HS5.out.files 2 1 1
  rw [open_in] at ho
  refine ho.mono ?_
  rintro e w6 ⟨rfl, h6, g6⟩
  have HS6 := Lib.hid (HS5.out.filed h6 g6)
  have c0 := cell_of_row HS6.out.bf 0
  clear h6 g6 HS5 ho
  go_wp2_with fail
  have ho := fopen_is HS6.out.files 3 1 2
  rw [open_out] at ho
  refine ho.mono ?_
  rintro e w7 ⟨rfl, h7, g7⟩
  have HS7 := Lib.hid (HS6.out.filed h7 g7)
  clear h7 g7 HS6 ho
  go_wp2_with fail
  refine (snew_is 4 w7 4 (by decide)).mono ?_
  rintro e w8 ⟨g2, gs2, cap2, rfl, h8, b8⟩
  have HS8 := Lib.hid (HS7.out.below b8)
  have HE8 : Hid (IsSet w.heap.size w8 g2 gs2 cap2 (List.replicate 4 (-1))) := Lib.hid (h8.less HS7.out.bel.size)
  clear h8 b8 HS7
  go_wp2_with fail
  have ho := sput_is HE8.out 0
  rw [put_in] at ho
  refine ho.mono ?_
  rintro e w9 ⟨rfl, h9, g9⟩
  have HS9 := Lib.hid (HS8.out.setted HE8.out g9)
  have HE9 := Lib.hid h9
  clear h9 g9 HS8 HE8 ho
  go_wp2_with fail
  have ho := sput_is HE9.out 1
  rw [put_out] at ho
  refine ho.mono ?_
  rintro e w10 ⟨rfl, h10, g10⟩
  have HS10 := Lib.hid (HS9.out.setted HE9.out g10)
  have HE10 := Lib.hid h10
  clear h10 g10 HS9 HE9 ho
  obtain ⟨w11, hw11⟩ : ∃ x, w10.alloc (.map #[] 0) = x := ⟨_, rfl⟩
  obtain ⟨bm, hbm⟩ : ∃ x, w10.heap.size = x := ⟨_, rfl⟩
  have k11 : Below w10.heap.size w10 w11 := by rw [← hw11]; exact (Below.refl _ _).alloc (Nat.le_refl _) _
  have HM11 : Hid (IsMp w.heap.size w11 bm 0 (fun _ => false) (fun _ => 0)) := Lib.hid (by rw [← hw11, ← hbm]; exact mp_new w10 HS10.out.bel.size)
  have HS11 := Lib.hid (HS10.out.below k11)
  have HE11 := Lib.hid (HE10.out.below k11)
  clear k11 HS10 HE10
  go_upto_block 0 with (refine wpList_mp_ins rfl _ _ _ rfl HM11.out rfl (by unfold maxLen; omega) 1 (by unfold I64; omega) rfl g2 rfl ?_; intro w12 a12 g12)
  have HS12 : Hid (Ch w w12 gf gfs gp gps g gs0 1 bm 1 q1 q2 newP (newT 8) [⟨1, g2, gs2, cap2, true⟩] [⟨1, g2, gs2, cap2, true⟩] 1 1 (.slice none 0 0) (.slice none 0 0) [] []) :=
    Lib.hid ((HS11.out.mapped HM11.out g12).chain (x := ⟨1, g2, gs2, cap2, true⟩) (a12.same (Nat.le_refl _) (fun j _ => by simp [csP, csPids]) (fun j _ => by
      unfold csF
      by_cases e : j = 1
      · subst e; simp
      · rw [if_neg e, List.find?_cons_of_neg (by simpa using fun h => e h.symm)]; rfl)) (HE11.out.keptE (Kb.row g12) HM11.out.typed id id))
  have HI12 : Hid (CInv (newT 8) [⟨1, g2, gs2, cap2, true⟩] 1 1 newP [] []) := Lib.hid (cinv_new rfl rfl)
  have HT12 : Hid ((newT 8).last = 1) := Lib.hid rfl
  obtain ⟨T0, hT0⟩ : ∃ T, newT 8 = T := ⟨_, rfl⟩
  rw [hT0] at HS12 HI12 HT12
  obtain ⟨ss0, hss0⟩ : ∃ T, [(⟨1, g2, gs2, cap2, true⟩ : CsD)] = T := ⟨_, rfl⟩
  rw [hss0] at HS12 HI12
  clear hw11 hbm HM11 HS11 HE11 a12 g12 hmk hT0 hss0
  go_cut [14, 15] (fun vs vg wx => ∃ (gs cap n : Nat) (s : PipeD) (T : TabD) (ss : List CsD) (c o : Nat) (sent got : List Nat), Hid (Ch w wx gf gfs gp gps g gs cap bm n q1 q2 s T ss ss c o vs vg sent got) ∧ Hid (CInv T ss c o s sent got) ∧ Hid (sent.length ≤ 80 ∧ T.last ≤ 1000))
  case first =>
    go_wp2_with fail
    go_loopw [14, 15, 16] (fun vs vg i wr => ∃ (k gs cap n : Nat) (s : PipeD) (T : TabD) (ss : List CsD) (c o : Nat) (sent got : List Nat), i = .int .i64 (k : Int) ∧ k ≤ 80 ∧ k ≤ L ∧ Hid (Ch w wr gf gfs gp gps g gs cap bm n q1 q2 s T ss ss c o vs vg sent got) ∧ Hid (CInv T ss c o s sent got) ∧ Hid (n ≤ 1 + k ∧ T.last ≤ 1 + (k : Int) ∧ sent.length ≤ k)) (fun _ _ i _ => 80 - (intOf i).toNat)
    case atStart => exact ⟨0, gs0, 1, 1, newP, T0, ss0, 1, 1, [], [], rfl, by decide, Nat.zero_le _, HS12, HI12, Lib.hid ⟨by decide, by rw [HT12.out]; decide, Nat.le_refl _⟩⟩
    case round =>
      obtain ⟨k, gs, cp, n, s, T, ss, c, o, sent, got, rfl, hk1, hk2, HS, HI, HT⟩ := hrel
      clear HS12 HI12 HT12
      have hx1 : (0 : Int) ≤ (k : Int) := by omega
      by_cases hlt : k < L
      · by_cases h80 : k < 80
        · have hx2 : (k : Int) < (L : Int) := by omega
          have hx3 : (k : Int) < 80 := by omega
          obtain ⟨⟨kd, x⟩, hx⟩ : ∃ x, l[k]? = some x := ⟨_, List.getElem?_eq_getElem (by rw [HLN.out]; exact hlt)⟩
          obtain ⟨b, off, rfl, hb, hc⟩ := HR.out.row (rowsOf_get hx)
          have D0 : Hid (w.cell? ⟨b, off + k * 2, none⟩ = some (.int .i64 kd)) := Lib.hid (hc 0 _ rfl)
          have D1 : Hid (w.cell? ⟨b, off + k * 2 + 1, none⟩ = some (.int .i64 x)) := Lib.hid (by have := hc 1 _ rfl; rwa [← Nat.add_assoc] at this)
          have HBB := Lib.hid hb
          have HLT := Lib.hid (And.intro hlt h80)
          clear hx hb hc hlt h80
          go_wp2_with fail
          refine (tpids_is HS.out.tab).mono ?_
          rintro e w13 ⟨v13, rfl, o13, b13⟩
          obtain ⟨a13, c13, rfl, hr13, _, _⟩ := o13.reads
          have HS13 := Lib.hid (HS.out.below b13)
          have d1 : w13.cell? ⟨b, off + k * 2 + 1, none⟩ = some (.int .i64 x) := (HS13.out.bel.cell (p := ⟨b, off + k * 2 + 1, none⟩) HBB.out).trans D1.out
          have hlen1 := HI.out.tr.len
          have hlen2 := HS13.out.tab.2.2.2.2.2.2.1
          obtain ⟨N, hN⟩ : ∃ N, T.list.length = N := ⟨_, rfl⟩
          rw [hN] at hlen1 hlen2
          rw [intsV_length, show (pidsL T.list).length = N from by unfold pidsL; rw [List.length_map]; exact hN] at hr13 ⊢
          obtain ⟨j, hj, hjN, t1, t2⟩ := turn22 x N (by omega)
          obtain ⟨u, hu⟩ : ∃ s, T.list[j]? = some s := ⟨_, List.getElem?_eq_getElem (by rw [hN]; exact hjN)⟩
          have hpk : (intsV (pidsL T.list))[j]? = some (.int .i64 u.pid) := by unfold intsV pidsL; rw [List.getElem?_map, List.getElem?_map, hu]; rfl
          obtain ⟨b7, o7, rfl, _, k7⟩ := hr13.at hpk
          have HFD := Lib.hid (show Found T u.pid j u from ⟨findI_nodup HI.out.tr.nodup hu, hu⟩)
          have HPI : Hid (I64 u.pid) := Lib.hid (by have := HI.out.tr.sane u (List.mem_of_getElem? hu); have := HT.out.2.1; unfold I64; omega)
          obtain ⟨pd, hpd⟩ : ∃ z, u.pid = z := ⟨_, rfl⟩
          rw [hpd] at k7 HPI HFD
          have HPD := Lib.hid hpd
          have hN0 : (0 : Int) < (N : Int) := by omega
          have hNz : ¬ (N : Int) = 0 := by omega
          have hN7 : (N : Int) ≤ 16 := by omega
          have hj0 : (0 : Int) ≤ (j : Int) := by omega
          have hj9 : (j : Int) < (N : Int) := by omega
          clear hr13 hN hu hpk hlen1 hlen2 o13 b13 hpd HS
          go_wp2_with (first | (at_lookup; refine wpList_mp_look rfl _ _ rfl HS13.out.map rfl pd HPI.out rfl ?_) | fail)
          clear hj hjN t1 t2 k7 hN0 hNz hN7 hj0 hj9 d1
          by_cases hst : u.state = 3
          · have hno : ¬ pd ∈ csPids ss := fun hm => alive_gone HI.out.tr (.inr ⟨j, u, HFD.out, hst⟩) ((HI.out.alive pd).2 hm)
            rw [csF_none hno, ptrV_zero]
            refine (tLive_no HS13.out.tab (.inr ⟨j, u, HFD.out, hst⟩)).mono ?_
            rintro e w14 ⟨rfl, b14⟩
            have HS14 := Lib.hid (HS13.out.below b14)
            clear b14 HS13 hno hst
            go_wp2
            have h9 := HLT.out
            go_roundw
            case rel => exact ⟨k + 1, gs, cp, n, s, T, ss, c, o, sent, got, by go_num, by omega, by omega, HS14, HI, Lib.hid (by have := HT.out; omega)⟩
            case measure => simp [intOf]; omega
          · have hin : pd ∈ csPids ss := (HI.out.alive pd).1 (aliveP_of HFD.out hst HPD.out)
            obtain ⟨y, hy, hyp⟩ := List.mem_map.1 hin
            rw [← hyp, csF_at HI.out.nodup hy, ptrV_to, hyp]
            refine (tLive_yes HS13.out.tab HFD.out hst).mono ?_
            rintro e w14 ⟨rfl, b14⟩
            have HS14 := Lib.hid (HS13.out.below b14)
            have d0 : w14.cell? ⟨b, off + k * 2, none⟩ = some (.int .i64 kd) := (HS14.out.bel.cell (p := ⟨b, off + k * 2, none⟩) HBB.out).trans D0.out
            obtain ⟨ls, rs, rfl⟩ := cs_split hy
            have HY := Lib.hid hyp
            clear b14 HS13 hin hy hyp
            by_cases hk0 : kd = 0
            · have hq0 : (kd == 0) = true := by simpa using hk0
              clear hk0
              as_aux_lemma =>
                have hgo : goneB T pd = false := (alive_iff HI.out.tr pd).2 (aliveP_of HFD.out hst HPD.out)
                have htr := tr_fork HI.out.tr pd
                have hpf := pfork_is HS14.out.tab pd (by have := HT.out.2.1; have := HLT.out; omega)
                unfold forkF at htr hpf
                rw [if_neg (by rw [hgo]; decide)] at htr hpf
                by_cases hfull : T.most ≤ (T.list.length : Int)
                · rw [if_pos hfull] at hpf
                  have HPF := Lib.hid hpf
                  clear hpf htr hgo hfull
                  go_wp2_with fail
                  refine HPF.out.mono ?_
                  rintro e w15 ⟨gs', cp', rfl, h15, k15⟩
                  have HS15 := Lib.hid (HS14.out.tabbed h15 k15)
                  clear h15 k15 HS14 HPF
                  go_wp2
                  have h9 := HLT.out
                  go_roundw
                  case rel => exact ⟨k + 1, gs', cp', n, s, T, ls ++ y :: rs, c, o, sent, got, by go_num, by omega, by omega, HS15, HI, Lib.hid (by have := HT.out; omega)⟩
                  case measure => simp [intOf]; omega
                · rw [if_neg hfull] at hpf htr
                  dsimp only at htr hpf
                  obtain ⟨ch, hch⟩ : ∃ z, T.last + 1 = z := ⟨_, rfl⟩
                  rw [hch] at htr hpf
                  obtain ⟨np, hnp⟩ : ∃ z, (⟨ch, pd, 1, 0, 0, false⟩ : ProcD) = z := ⟨_, rfl⟩
                  rw [hnp] at htr hpf
                  have HNP : Hid (ch = np.pid ∧ np.state ≠ 3) := Lib.hid (by rw [← hnp]; exact ⟨rfl, (by show ¬ (1 : Int) = 3; decide)⟩)
                  have HNEW : Hid (¬ ch ∈ csPids (ls ++ y :: rs)) := Lib.hid (by
                    intro hm
                    obtain ⟨t, ht, hp, _⟩ := (HI.out.alive ch).2 hm
                    have := HI.out.tr.sane t ht
                    omega)
                  have HCL := Lib.hid hch
                  have HCH : Hid (I64 ch) := Lib.hid (by have := HT.out.2.1; have := HLT.out; have := HI.out.tr.first; obtain ⟨t, l, e, hp, _⟩ := this; have := HI.out.tr.sane t (by rw [e]; simp); unfold I64; omega)
                  obtain ⟨T', hT'⟩ : ∃ z, ({ T with last := ch, list := T.list ++ [np] } : TabD) = z := ⟨_, rfl⟩
                  rw [hT'] at hpf htr
                  have HPF := Lib.hid hpf
                  have HTR := Lib.hid htr
                  have HT' := Lib.hid hT'
                  have HTL : Hid (T'.last = ch) := Lib.hid (by rw [← hT'])
                  clear hpf htr hgo hfull hch hnp hT'
                  go_wp2_with fail
                  refine HPF.out.mono ?_
                  rintro e w15 ⟨gs', cp', rfl, h15, k15⟩
                  have HS15 := Lib.hid (HS14.out.tabbed h15 k15)
                  clear h15 k15 HS14 HPF
                  cases hyo : y.out
                  · skip
                    have hal := sall_is (HS15.out.sets y (by simp))
                    rw [hyo, all_no] at hal
                    have HAL := Lib.hid hal
                    have HIF : Hid (∀ g2 gs2 cap2, CInv T' ((ls ++ y :: rs) ++ [⟨ch, g2, gs2, cap2, y.out⟩]) (c + 1) o s sent got) := Lib.hid (by
                      intro g2 gs2 cap2
                      have h := HI.out.born (x := ⟨ch, g2, gs2, cap2, y.out⟩) np ch HNP.out.1 HNP.out.2 HNEW.out (by rw [HT'.out]; exact HTR.out) (by intro hc; exact absurd (hyo.symm.trans hc) (by decide))
                      rw [HT'.out] at h
                      rw [show (if (⟨ch, g2, gs2, cap2, y.out⟩ : CsD).out = true then 1 else 0) = 0 by show (if y.out = true then 1 else 0) = 0; rw [hyo]; rfl] at h
                      exact h)
                    have HBD : Hid (1 ≤ c ∧ 0 ≤ o ∧ c ≤ 8 ∧ o ≤ 8) := Lib.hid (by have := HI.out.bounds; have := HI.out.pos; omega)
                    clear hal
                    go_wp2_with fail
                    refine HAL.out.mono ?_
                    rintro e w16 ⟨v16, rfl, o16, b16⟩
                    obtain ⟨b17, c17, cs17, rfl, h17, hv17⟩ := ints_there o16 (by decide)
                    rw [show ([0] : List Int).length = 1 from rfl]
                    have HV0 := Lib.hid (hv17 0 0 rfl)
                    have HS16 := Lib.hid (HS15.out.below b16)
                    have H17 := Lib.hid h17
                    clear o16 b16 h17 hv17 HAL HS15
                    go_wp2
                    go_loopw [143] (fun i wr => ∃ (j : Nat) (c1 o1 : Nat), i = .int .i64 (j : Int) ∧ Hid (Ch w wr gf gfs gp gps g gs' cp' bm n q1 q2 s T' (ls ++ y :: rs) (ls ++ y :: rs) c1 o1 u14 u15 sent got) ∧ Hid (wr.heap[b17]? = some (.cells cs17 3 (0, 0))) ∧ ((j = 0 ∧ c1 = c ∧ o1 = o) ∨ (j = 1 ∧ c1 = c + 1 ∧ o1 = o))) (fun i _ => 1 - (intOf i).toNat)
                    case atStart => exact ⟨0, c, o, rfl, HS16, H17, .inl ⟨rfl, rfl, rfl⟩⟩
                    case round =>
                      obtain ⟨j, c1, o1, rfl, HSJ, HJ17, hj⟩ := hrel
                      clear HS16 H17
                      rcases hj with ⟨e1, e3, e4⟩ | ⟨e1, e3, e4⟩
                      · subst e1
                        rw [e3, e4] at HSJ
                        clear e3 e4
                        have k0 := cell_atT HJ17.out 0
                        rw [HV0.out] at k0
                        have c1 := cell_of_row HSJ.out.bf 0
                        have hrf := fref_is HSJ.out.files (few_flC (by have := HBD.out; omega) (by have := HBD.out; omega)) 0
                        rw [ref_in (by have := HBD.out; omega)] at hrf
                        have HRF := Lib.hid hrf
                        clear hrf
                        go_wp2_with fail
                        refine HRF.out.mono ?_
                        rintro e w20 ⟨rfl, h20, g20⟩
                        have HK20 := Lib.hid (IntsKept.filed HSJ.out.files g20 _ _ HJ17.out)
                        have HS20 := Lib.hid (HSJ.out.filed h20 g20)
                        clear h20 g20 HRF HSJ HJ17 k0 c1
                        go_wp2
                        go_roundw
                        case rel => exact ⟨0 + 1, c + 1, o, by go_num, HS20, HK20, .inr ⟨rfl, rfl, rfl⟩⟩
                        case measure => simp [intOf]
                      · subst e1
                        rw [e3, e4] at HSJ
                        clear e3 e4
                        go_wp2_with fail
                        refine (sclone_is (HSJ.out.sets y (by simp))).mono ?_
                        rintro e w21 ⟨g2, gs2, cap2, rfl, h21, b21⟩
                        have HS21 := Lib.hid (HSJ.out.more (x := ⟨ch, g2, gs2, cap2, y.out⟩) h21 b21)
                        clear h21 b21 HSJ HJ17
                        have HIB := Lib.hid (HIF.out g2 gs2 cap2)
                        go_wp2_with (first | (at_mapUpdate; refine wpList_mp_put rfl _ _ _ rfl HS21.out.map rfl (by have := HT.out; have := HLT.out; unfold maxLen; omega) ch HCH.out rfl g2 rfl ?_; intro w22 a22 g22; have HM22 := Lib.hid (a22.same (p' := csP ((ls ++ y :: rs) ++ [⟨ch, g2, gs2, cap2, y.out⟩])) (F' := csF ((ls ++ y :: rs) ++ [⟨ch, g2, gs2, cap2, y.out⟩])) (Nat.le_refl _) (fun z _ => (map_born (x := ⟨ch, g2, gs2, cap2, y.out⟩) HNEW.out HI.out.nodup z).1) (fun z _ => (map_born (x := ⟨ch, g2, gs2, cap2, y.out⟩) HNEW.out HI.out.nodup z).2)); have HS22 := Lib.hid (HS21.out.mapped HM22.out g22); clear a22 g22) | fail)
                        have h9 := HLT.out
                        go_roundw
                        case rel => exact ⟨k + 1, gs', cp', n + 1, s, T', (ls ++ y :: rs) ++ [⟨ch, g2, gs2, cap2, y.out⟩], c + 1, o, sent, got, by go_num, by omega, by omega, HS22, HIB, Lib.hid (by have := HT.out; have := HCL.out; have := HTL.out; omega)⟩
                        case measure => simp [intOf]; omega
                  · skip
                    have hal := sall_is (HS15.out.sets y (by simp))
                    rw [hyo, all_yes] at hal
                    have HAL := Lib.hid hal
                    have hoc : o = csOut (ls ++ rs) + 1 := by have := HI.out.ois; rw [csOut_cut, hyo] at this; exact this
                    have HIF : Hid (∀ g2 gs2 cap2, CInv T' ((ls ++ y :: rs) ++ [⟨ch, g2, gs2, cap2, y.out⟩]) (c + 1) (o + 1) s sent got) := Lib.hid (by
                      intro g2 gs2 cap2
                      have h := HI.out.born (x := ⟨ch, g2, gs2, cap2, y.out⟩) np ch HNP.out.1 HNP.out.2 HNEW.out (by rw [HT'.out]; exact HTR.out) (by intro hc; omega)
                      rw [HT'.out] at h
                      rw [show (if (⟨ch, g2, gs2, cap2, y.out⟩ : CsD).out = true then 1 else 0) = 1 by show (if y.out = true then 1 else 0) = 1; rw [hyo]; rfl] at h
                      exact h)
                    have HBD : Hid (1 ≤ c ∧ 1 ≤ o ∧ c ≤ 8 ∧ o ≤ 8) := Lib.hid (by have := HI.out.bounds; have := HI.out.pos; omega)
                    clear hoc
                    clear hal
                    go_wp2_with fail
                    refine HAL.out.mono ?_
                    rintro e w16 ⟨v16, rfl, o16, b16⟩
                    obtain ⟨b17, c17, cs17, rfl, h17, hv17⟩ := ints_there o16 (by decide)
                    rw [show ([0, 1] : List Int).length = 2 from rfl]
                    have HV0 := Lib.hid (hv17 0 0 rfl)
                    have HV1 := Lib.hid (hv17 1 1 rfl)
                    have HS16 := Lib.hid (HS15.out.below b16)
                    have H17 := Lib.hid h17
                    clear o16 b16 h17 hv17 HAL HS15
                    go_wp2
                    go_loopw [143] (fun i wr => ∃ (j : Nat) (c1 o1 : Nat), i = .int .i64 (j : Int) ∧ Hid (Ch w wr gf gfs gp gps g gs' cp' bm n q1 q2 s T' (ls ++ y :: rs) (ls ++ y :: rs) c1 o1 u14 u15 sent got) ∧ Hid (wr.heap[b17]? = some (.cells cs17 3 (0, 0))) ∧ ((j = 0 ∧ c1 = c ∧ o1 = o) ∨ (j = 1 ∧ c1 = c + 1 ∧ o1 = o) ∨ (j = 2 ∧ c1 = c + 1 ∧ o1 = o + 1))) (fun i _ => 2 - (intOf i).toNat)
                    case atStart => exact ⟨0, c, o, rfl, HS16, H17, .inl ⟨rfl, rfl, rfl⟩⟩
                    case round =>
                      obtain ⟨j, c1, o1, rfl, HSJ, HJ17, hj⟩ := hrel
                      clear HS16 H17
                      rcases hj with ⟨e1, e3, e4⟩ | ⟨e1, e3, e4⟩ | ⟨e1, e3, e4⟩
                      · subst e1
                        rw [e3, e4] at HSJ
                        clear e3 e4
                        have k0 := cell_atT HJ17.out 0
                        rw [HV0.out] at k0
                        have c1 := cell_of_row HSJ.out.bf 0
                        have hrf := fref_is HSJ.out.files (few_flC (by have := HBD.out; omega) (by have := HBD.out; omega)) 0
                        rw [ref_in (by have := HBD.out; omega)] at hrf
                        have HRF := Lib.hid hrf
                        clear hrf
                        go_wp2_with fail
                        refine HRF.out.mono ?_
                        rintro e w20 ⟨rfl, h20, g20⟩
                        have HK20 := Lib.hid (IntsKept.filed HSJ.out.files g20 _ _ HJ17.out)
                        have HS20 := Lib.hid (HSJ.out.filed h20 g20)
                        clear h20 g20 HRF HSJ HJ17 k0 c1
                        go_wp2
                        go_roundw
                        case rel => exact ⟨0 + 1, c + 1, o, by go_num, HS20, HK20, .inr (.inl ⟨rfl, rfl, rfl⟩)⟩
                        case measure => simp [intOf]
                      · subst e1
                        rw [e3, e4] at HSJ
                        clear e3 e4
                        have k0 := cell_atT HJ17.out 1
                        rw [HV1.out] at k0
                        have c1 := cell_of_row HSJ.out.bf 0
                        have hrf := fref_is HSJ.out.files (few_flC (by have := HBD.out; omega) (by have := HBD.out; omega)) 1
                        rw [ref_out (by have := HBD.out; omega)] at hrf
                        have HRF := Lib.hid hrf
                        clear hrf
                        go_wp2_with fail
                        refine HRF.out.mono ?_
                        rintro e w20 ⟨rfl, h20, g20⟩
                        have HK20 := Lib.hid (IntsKept.filed HSJ.out.files g20 _ _ HJ17.out)
                        have HS20 := Lib.hid (HSJ.out.filed h20 g20)
                        clear h20 g20 HRF HSJ HJ17 k0 c1
                        go_wp2
                        go_roundw
                        case rel => exact ⟨1 + 1, c + 1, o + 1, by go_num, HS20, HK20, .inr (.inr ⟨rfl, rfl, rfl⟩)⟩
                        case measure => simp [intOf]
                      · subst e1
                        rw [e3, e4] at HSJ
                        clear e3 e4
                        go_wp2_with fail
                        refine (sclone_is (HSJ.out.sets y (by simp))).mono ?_
                        rintro e w21 ⟨g2, gs2, cap2, rfl, h21, b21⟩
                        have HS21 := Lib.hid (HSJ.out.more (x := ⟨ch, g2, gs2, cap2, y.out⟩) h21 b21)
                        clear h21 b21 HSJ HJ17
                        have HIB := Lib.hid (HIF.out g2 gs2 cap2)
                        go_wp2_with (first | (at_mapUpdate; refine wpList_mp_put rfl _ _ _ rfl HS21.out.map rfl (by have := HT.out; have := HLT.out; unfold maxLen; omega) ch HCH.out rfl g2 rfl ?_; intro w22 a22 g22; have HM22 := Lib.hid (a22.same (p' := csP ((ls ++ y :: rs) ++ [⟨ch, g2, gs2, cap2, y.out⟩])) (F' := csF ((ls ++ y :: rs) ++ [⟨ch, g2, gs2, cap2, y.out⟩])) (Nat.le_refl _) (fun z _ => (map_born (x := ⟨ch, g2, gs2, cap2, y.out⟩) HNEW.out HI.out.nodup z).1) (fun z _ => (map_born (x := ⟨ch, g2, gs2, cap2, y.out⟩) HNEW.out HI.out.nodup z).2)); have HS22 := Lib.hid (HS21.out.mapped HM22.out g22); clear a22 g22) | fail)
                        have h9 := HLT.out
                        go_roundw
                        case rel => exact ⟨k + 1, gs', cp', n + 1, s, T', (ls ++ y :: rs) ++ [⟨ch, g2, gs2, cap2, y.out⟩], c + 1, o + 1, sent, got, by go_num, by omega, by omega, HS22, HIB, Lib.hid (by have := HT.out; have := HCL.out; have := HTL.out; omega)⟩
                        case measure => simp [intOf]; omega
            · have hq0 : (kd == 0) = false := by simpa using hk0
              by_cases hk1 : kd = 1
              · have hq1 : (kd == 1) = true := by simpa using hk1
                clear hk0 hk1
                as_aux_lemma =>
                  have hgo : goneB T pd = false := (alive_iff HI.out.tr pd).2 (aliveP_of HFD.out hst HPD.out)
                  have htr := tr_exit HI.out.tr pd 0
                  have hpe := pexit_is HS14.out.tab HI.out.tr pd 0
                  unfold exitF at htr hpe
                  rw [if_neg (by rw [hgo]; decide)] at htr hpe
                  by_cases hone : pd = 1
                  · rw [if_pos hone] at hpe
                    have HPE := Lib.hid hpe
                    clear hpe htr hgo hone
                    go_wp2_with fail
                    refine HPE.out.mono ?_
                    rintro e w15 ⟨gs', cp', rfl, h15, k15⟩
                    have HS15 := Lib.hid (HS14.out.tabbed h15 k15)
                    clear h15 k15 HS14 HPE
                    go_wp2
                    have h9 := HLT.out
                    go_roundw
                    case rel => exact ⟨k + 1, gs', cp', n, s, T, ls ++ y :: rs, c, o, sent, got, by go_num, by omega, by omega, HS15, HI, Lib.hid (by have := HT.out; omega)⟩
                    case measure => simp [intOf]; omega
                  · rw [if_neg hone] at hpe htr
                    obtain ⟨cd, hcd⟩ : ∃ z, bits .and .i64 0 255 = z := ⟨_, rfl⟩
                    rw [hcd] at hpe htr
                    dsimp only at htr hpe
                    obtain ⟨T', hT'⟩ : ∃ z, ({ T with list := endL pd cd T.list } : TabD) = z := ⟨_, rfl⟩
                    rw [hT'] at hpe htr
                    have HPE := Lib.hid hpe
                    have HTR := Lib.hid htr
                    have HT' := Lib.hid hT'
                    have HC2 : Hid (2 ≤ c) := Lib.hid (by
                      rw [HI.out.cis, List.length_append, List.length_cons]
                      have h1 := HI.out.one
                      unfold csPids at h1
                      rw [List.map_append, List.map_cons, List.mem_append, List.mem_cons] at h1
                      rcases h1 with h1 | h1 | h1
                      · have := List.length_pos_of_mem h1; rw [List.length_map] at this; omega
                      · exact absurd (HY.out.symm.trans h1.symm) hone
                      · have := List.length_pos_of_mem h1; rw [List.length_map] at this; omega)
                    clear hpe htr hgo hone hcd hT'
                    go_wp2_with fail
                    refine HPE.out.mono ?_
                    rintro e w15 ⟨gs', cp', rfl, h15, k15⟩
                    have HS15 := Lib.hid (HS14.out.tabbed h15 k15)
                    clear h15 k15 HS14 HPE
                    cases hyo : y.out
                    · skip
                      have hal := sall_is (HS15.out.sets y (by simp))
                      rw [hyo, all_no] at hal
                      have HAL := Lib.hid hal
                      have hoc : o = csOut (ls ++ rs) + 0 := by have := HI.out.ois; rw [csOut_cut, hyo] at this; exact this
                      have HOC := Lib.hid hoc
                      clear hal hoc
                      have HBD := Lib.hid HI.out.bounds
                      have HIF : Hid (CInv T' (ls ++ rs) (c - 1) o s sent got) := Lib.hid (by
                        have h := HI.out.dead (x := y) cd (by rw [HY.out, HT'.out]; exact HTR.out) s HI.out.reads (by rw [HI.out.writes, show o = csOut (ls ++ rs) by have := HOC.out; omega]) rfl
                        rw [HY.out, HT'.out, show csOut (ls ++ rs) = o by have := HOC.out; omega] at h
                        exact h)
                      go_wp2_with fail
                      refine HAL.out.mono ?_
                      rintro e w16 ⟨v16, rfl, o16, b16⟩
                      obtain ⟨b17, c17, cs17, rfl, h17, hv17⟩ := ints_there o16 (by decide)
                      rw [show ([0] : List Int).length = 1 from rfl]
                      have HV0 := Lib.hid (hv17 0 0 rfl)
                      have HS16 := Lib.hid (HS15.out.below b16)
                      have H17 := Lib.hid h17
                      clear o16 b16 h17 hv17 HAL HS15
                      go_wp2
                      go_loopw [165] (fun i wr => ∃ (j : Nat) (s1 : PipeD) (c1 o1 : Nat), i = .int .i64 (j : Int) ∧ Hid (Ch w wr gf gfs gp gps g gs' cp' bm n q1 q2 s1 T' (ls ++ y :: rs) (ls ++ y :: rs) c1 o1 u14 u15 sent got) ∧ Hid (wr.heap[b17]? = some (.cells cs17 3 (0, 0))) ∧ ((j = 0 ∧ s1 = s ∧ c1 = c ∧ o1 = o) ∨ (j = 1 ∧ s1 = s ∧ c1 = c - 1 ∧ o1 = o))) (fun i _ => 1 - (intOf i).toNat)
                      case atStart => exact ⟨0, s, c, o, rfl, HS16, H17, .inl ⟨rfl, rfl, rfl, rfl⟩⟩
                      case round =>
                        obtain ⟨j, s1, c1, o1, rfl, HSJ, HJ17, hj⟩ := hrel
                        clear HS16 H17
                        rcases hj with ⟨e1, e2, e3, e4⟩ | ⟨e1, e2, e3, e4⟩
                        · subst e1
                          rw [e2, e3, e4] at HSJ
                          clear e2 e3 e4
                          have k0 := cell_atT HJ17.out 0
                          rw [HV0.out] at k0
                          have HSH := Lib.hid (shut_some HSJ.out (by have := HBD.out; omega) (by have := HBD.out; omega) 0 (c - 1) o _ _ _ _ _ (close_in HC2.out))
                          go_wp2_with fail
                          refine HSH.out.mono ?_
                          rintro e w20 ⟨rfl, h20, hk20⟩
                          have HS20 := Lib.hid h20
                          have HK20 := Lib.hid (hk20 _ _ HJ17.out)
                          clear h20 hk20 HSH HSJ k0
                          go_wp2
                          go_roundw
                          case rel => exact ⟨0 + 1, s, c - 1, o, by go_num, HS20, HK20, .inr ⟨rfl, rfl, rfl, rfl⟩⟩
                          case measure => simp [intOf]
                        · subst e1
                          rw [e2, e3, e4] at HSJ
                          clear e2 e3 e4
                          go_wp2_with (first | (at_delete; refine wpList_mp_del rfl _ _ rfl HSJ.out.map rfl pd HPI.out rfl ?_; intro w21 a21 g21; have HM21 := Lib.hid (a21.same (p' := csP (ls ++ rs)) (F' := csF (ls ++ rs)) (Nat.le_refl _) (fun z _ => by have h := (map_dead HI.out.nodup z).1; rw [HY.out] at h; exact h) (fun z _ => by have h := (map_dead HI.out.nodup z).2; rw [HY.out] at h; exact h)); have HS21 := Lib.hid ((HSJ.out.mapped HM21.out g21).drop (List.Sublist.append (List.Sublist.refl ls) (List.sublist_cons_self y rs))); clear a21 g21) | fail)
                          have h9 := HLT.out
                          go_roundw
                          case rel => exact ⟨k + 1, gs', cp', n, s, T', ls ++ rs, c - 1, o, sent, got, by go_num, by omega, by omega, HS21, HIF, Lib.hid (by have := HT.out; have e : T'.last = T.last := (by rw [← HT'.out]); omega)⟩
                          case measure => simp [intOf]; omega
                    · skip
                      have hal := sall_is (HS15.out.sets y (by simp))
                      rw [hyo, all_yes] at hal
                      have HAL := Lib.hid hal
                      have hoc : o = csOut (ls ++ rs) + 1 := by have := HI.out.ois; rw [csOut_cut, hyo] at this; exact this
                      have HOC := Lib.hid hoc
                      clear hal hoc
                      have HBD := Lib.hid HI.out.bounds
                      obtain ⟨f1, f2, f3, f4⟩ := shutS_is HI.out (by have := HOC.out; omega)
                      have HF4 := Lib.hid f4
                      have HIF : Hid (CInv T' (ls ++ rs) (c - 1) (o - 1) (shutS s o) sent got) := Lib.hid (by
                        have h := HI.out.dead (x := y) cd (by rw [HY.out, HT'.out]; exact HTR.out) (shutS s o) f1 (by rw [f2, show o - 1 = csOut (ls ++ rs) by have := HOC.out; omega]) f3
                        rw [HY.out, HT'.out, show csOut (ls ++ rs) = o - 1 by have := HOC.out; omega] at h
                        exact h)
                      clear f1 f2 f3 f4
                      go_wp2_with fail
                      refine HAL.out.mono ?_
                      rintro e w16 ⟨v16, rfl, o16, b16⟩
                      obtain ⟨b17, c17, cs17, rfl, h17, hv17⟩ := ints_there o16 (by decide)
                      rw [show ([0, 1] : List Int).length = 2 from rfl]
                      have HV0 := Lib.hid (hv17 0 0 rfl)
                      have HV1 := Lib.hid (hv17 1 1 rfl)
                      have HS16 := Lib.hid (HS15.out.below b16)
                      have H17 := Lib.hid h17
                      clear o16 b16 h17 hv17 HAL HS15
                      go_wp2
                      go_loopw [165] (fun i wr => ∃ (j : Nat) (s1 : PipeD) (c1 o1 : Nat), i = .int .i64 (j : Int) ∧ Hid (Ch w wr gf gfs gp gps g gs' cp' bm n q1 q2 s1 T' (ls ++ y :: rs) (ls ++ y :: rs) c1 o1 u14 u15 sent got) ∧ Hid (wr.heap[b17]? = some (.cells cs17 3 (0, 0))) ∧ ((j = 0 ∧ s1 = s ∧ c1 = c ∧ o1 = o) ∨ (j = 1 ∧ s1 = s ∧ c1 = c - 1 ∧ o1 = o) ∨ (j = 2 ∧ s1 = shutS s o ∧ c1 = c - 1 ∧ o1 = o - 1))) (fun i _ => 2 - (intOf i).toNat)
                      case atStart => exact ⟨0, s, c, o, rfl, HS16, H17, .inl ⟨rfl, rfl, rfl, rfl⟩⟩
                      case round =>
                        obtain ⟨j, s1, c1, o1, rfl, HSJ, HJ17, hj⟩ := hrel
                        clear HS16 H17
                        rcases hj with ⟨e1, e2, e3, e4⟩ | ⟨e1, e2, e3, e4⟩ | ⟨e1, e2, e3, e4⟩
                        · subst e1
                          rw [e2, e3, e4] at HSJ
                          clear e2 e3 e4
                          have k0 := cell_atT HJ17.out 0
                          rw [HV0.out] at k0
                          have HSH := Lib.hid (shut_some HSJ.out (by have := HBD.out; omega) (by have := HBD.out; omega) 0 (c - 1) o _ _ _ _ _ (close_in HC2.out))
                          go_wp2_with fail
                          refine HSH.out.mono ?_
                          rintro e w20 ⟨rfl, h20, hk20⟩
                          have HS20 := Lib.hid h20
                          have HK20 := Lib.hid (hk20 _ _ HJ17.out)
                          clear h20 hk20 HSH HSJ k0
                          go_wp2
                          go_roundw
                          case rel => exact ⟨0 + 1, s, c - 1, o, by go_num, HS20, HK20, .inr (.inl ⟨rfl, rfl, rfl, rfl⟩)⟩
                          case measure => simp [intOf]
                        · subst e1
                          rw [e2, e3, e4] at HSJ
                          clear e2 e3 e4
                          have k0 := cell_atT HJ17.out 1
                          rw [HV1.out] at k0
                          have HSH := Lib.hid (shut_any HSJ.out (by have := HBD.out; omega) (by have := HBD.out; omega) (by have := HOC.out; omega) HI.out.there HF4.out)
                          go_wp2_with fail
                          refine HSH.out.mono ?_
                          rintro e w20 ⟨rfl, h20, hk20⟩
                          have HS20 := Lib.hid h20
                          have HK20 := Lib.hid (hk20 _ _ HJ17.out)
                          clear h20 hk20 HSH HSJ k0
                          go_wp2
                          go_roundw
                          case rel => exact ⟨1 + 1, shutS s o, c - 1, o - 1, by go_num, HS20, HK20, .inr (.inr ⟨rfl, rfl, rfl, rfl⟩)⟩
                          case measure => simp [intOf]
                        · subst e1
                          rw [e2, e3, e4] at HSJ
                          clear e2 e3 e4
                          go_wp2_with (first | (at_delete; refine wpList_mp_del rfl _ _ rfl HSJ.out.map rfl pd HPI.out rfl ?_; intro w21 a21 g21; have HM21 := Lib.hid (a21.same (p' := csP (ls ++ rs)) (F' := csF (ls ++ rs)) (Nat.le_refl _) (fun z _ => by have h := (map_dead HI.out.nodup z).1; rw [HY.out] at h; exact h) (fun z _ => by have h := (map_dead HI.out.nodup z).2; rw [HY.out] at h; exact h)); have HS21 := Lib.hid ((HSJ.out.mapped HM21.out g21).drop (List.Sublist.append (List.Sublist.refl ls) (List.sublist_cons_self y rs))); clear a21 g21) | fail)
                          have h9 := HLT.out
                          go_roundw
                          case rel => exact ⟨k + 1, gs', cp', n, shutS s o, T', ls ++ rs, c - 1, o - 1, sent, got, by go_num, by omega, by omega, HS21, HIF, Lib.hid (by have := HT.out; have e : T'.last = T.last := (by rw [← HT'.out]); omega)⟩
                          case measure => simp [intOf]; omega
              have hq1 : (kd == 1) = false := by simpa using hk1
              by_cases hk2 : kd = 2
              · have hq2 : (kd == 2) = true := by simpa using hk2
                clear hk0 hk2
                as_aux_lemma =>
                  cases hyo : y.out
                  · have hg := sget_is (HS14.out.sets y (by simp)) 1
                    rw [hyo, get_one.2] at hg
                    have HG := Lib.hid hg
                    clear hg hyo
                    go_wp2_with fail
                    refine HG.out.mono ?_
                    rintro e w15 ⟨rfl, rfl⟩
                    go_wp2
                    have h9 := HLT.out
                    go_roundw
                    case rel => exact ⟨k + 1, gs, cp, n, s, T, ls ++ y :: rs, c, o, sent, got, by go_num, by omega, by omega, HS14, HI, Lib.hid (by have := HT.out; omega)⟩
                    case measure => simp [intOf]; omega

                  · have hg := sget_is (HS14.out.sets y (by simp)) 1
                    rw [hyo, get_one.1] at hg
                    have HG := Lib.hid hg
                    have c1 := cell_of_row HS14.out.bp 0
                    clear hg hyo
                    go_wp2_with fail
                    refine HG.out.mono ?_
                    rintro e w15 ⟨rfl, rfl⟩
                    go_wp2_with fail
                    have kx := below_box w14 (.cells #[.int .u8 (k : Int)] 5)
                    have nx := heap_alloc_new w14 (.cells #[.int .u8 (k : Int)] 5)
                    obtain ⟨w16, hw16⟩ : ∃ X, w14.alloc (.cells #[.int .u8 (k : Int)] 5) = X := ⟨_, rfl⟩
                    rw [hw16] at kx nx ⊢
                    have HS16 := Lib.hid (HS14.out.below kx)
                    have hby : Bytes [k] := by
                      intro z hz
                      rw [List.mem_singleton.1 hz]
                      have := HLT.out.2
                      omega
                    have HBY := Lib.hid hby
                    have hrd : Reads w16 (some ⟨w14.heap.size, 0, none⟩) 1 [k] := ⟨rfl, hby, .inr ⟨_, _, rfl, (Array.getElem?_eq_some_iff.1 nx).1, fun i hi => by
                      obtain rfl : i = 0 := by omega
                      exact cell_of_row nx 0⟩⟩
                    have hne : gps < w14.heap.size := (pipes_lt HS14.out.pipes).2.1
                    have hps := pwrite_is HS16.out.pipes 1 0 rfl s rfl HI.out.there (some ⟨w14.heap.size, 0, none⟩) 1 1 [k] hrd (by omega) (Nat.le_refl _) (fun _ x hx => by cases hx; show w14.heap.size ≠ gps; omega)
                    unfold WritePost at hps
                    clear kx nx hw16 hrd hne hby HS14
                    have hs64 : s.count ≤ 64 := (pipes_lts HS16.out.pipes (s := s) (i := 0) rfl).2.2.1
                    by_cases hfull : s.count = 64
                    · have hwk : wrK s [k].length = (0, 15) := by unfold wrK; rw [if_neg (by simp), if_neg (by rw [HI.out.reads]; decide), if_pos hfull]
                      rw [hwk] at hps
                      have HPS := Lib.hid hps
                      clear hps hwk hfull hs64
                      refine HPS.out.mono ?_
                      rintro e w17 ⟨s', rfl, hp, g17, hct, hr1, hw1⟩
                      have HS17 := Lib.hid (HS16.out.piped hp g17)
                      have HI17 := Lib.hid (HI.out.flow (sent' := sent) (got' := got) s' hr1 hw1 (by rw [show content s' = content s from by simpa using hct]; exact HI.out.bytes))
                      clear hp g17 hct hr1 hw1 HPS HS16
                      go_wp2
                      have h9 := HLT.out
                      go_roundw
                      case rel => exact ⟨k + 1, gs, cp, n, s', T, ls ++ y :: rs, c, o, sent, got, by go_num, by omega, by omega, HS17, HI17, Lib.hid (by have := HT.out; omega)⟩
                      case measure => simp [intOf]; omega
                    · have hwk : wrK s [k].length = (1, 0) := by
                        unfold wrK
                        rw [if_neg (by simp), if_neg (by rw [HI.out.reads]; decide), if_neg hfull]
                        show (min 1 (64 - s.count), (0 : Int)) = _
                        rw [show min 1 (64 - s.count) = 1 from by omega]
                      rw [hwk] at hps
                      have HPS := Lib.hid hps
                      clear hps hwk hfull hs64
                      refine HPS.out.mono ?_
                      rintro e w17 ⟨s', rfl, hp, g17, hct, hr1, hw1⟩
                      have HS17 := Lib.hid (HS16.out.piped hp g17)
                      have HI17 := Lib.hid (HI.out.flow (sent' := sent ++ [k]) (got' := got) s' hr1 hw1 (by rw [show content s' = content s ++ [k] from by simpa using hct, ← List.append_assoc, ← HI.out.bytes]))
                      have kx := below_box w17 (.cells #[.int .u8 (k : Int)] 5)
                      have nx := heap_alloc_new w17 (.cells #[.int .u8 (k : Int)] 5)
                      have HS18 := Lib.hid (HS17.out.below kx)
                      have HRD : Hid (Reads (w17.alloc (.cells #[.int .u8 (k : Int)] 5)) (some ⟨w17.heap.size, 0, none⟩) 1 [k]) := Lib.hid ⟨rfl, HBY.out, .inr ⟨_, _, rfl, (Array.getElem?_eq_some_iff.1 nx).1, fun i hi => by
                        obtain rfl : i = 0 := by omega
                        exact cell_of_row nx 0⟩⟩
                      have HLS : Hid (sent.length + 1 ≤ 140737488355328) := Lib.hid (by have := HT.out; have := HLT.out; omega)
                      clear hp g17 hct hr1 hw1 HPS HS16 HS17 kx nx
                      go_wp2_with (at_builtin; refine append_bytes_at (by rfl) (.tmp 200) (.tmp 203) (by rfl) w.heap.size _ sent (by rfl) HS18.out.sent (some ⟨w17.heap.size, 0, none⟩) 1 1 (by rfl) [k] HRD.out HLS.out HS18.out.bel.size ?_; intro v' w19 ho hg hl)
                      have HS19 := Lib.hid (HS18.out.sentd ho hg hl)
                      clear ho hg hl
                      have h9 := HLT.out
                      go_roundw
                      case rel => exact ⟨k + 1, gs, cp, n, s', T, ls ++ y :: rs, c, o, sent ++ [k], got, by go_num, by omega, by omega, HS19, HI17, Lib.hid (by have := HT.out; rw [List.length_append, List.length_singleton]; omega)⟩
                      case measure => simp [intOf]; omega
              have hq2 : (kd == 2) = false := by simpa using hk2
              by_cases hk3 : kd = 3
              · have hq3 : (kd == 3) = true := by simpa using hk3
                clear hk0 hk3
                as_aux_lemma =>
                  have hg := sget_is (HS14.out.sets y (by simp)) 0
                  rw [get_zero] at hg
                  have HG := Lib.hid hg
                  have c1 := cell_of_row HS14.out.bp 0
                  have hps := pread_is HS14.out.pipes 1 0 rfl s rfl HI.out.there 1 (by decide)
                  have her : (rdK s 1).2 = 0 ∨ (rdK s 1).2 = 15 := by
                    unfold rdK
                    rw [if_neg (by decide)]
                    split
                    · exact .inr rfl
                    · exact .inl rfl
                  unfold ReadPost at hps
                  obtain ⟨kk, hkk⟩ : ∃ z, (rdK s 1).1 = z := ⟨_, rfl⟩
                  obtain ⟨er, her2⟩ : ∃ z, (rdK s 1).2 = z := ⟨_, rfl⟩
                  rw [hkk, her2] at hps
                  rw [her2] at her
                  have HPS := Lib.hid hps
                  clear hg hps hkk her2
                  go_wp2_with fail
                  refine HG.out.mono ?_
                  rintro e w15 ⟨rfl, rfl⟩
                  go_wp2_with fail
                  refine HPS.out.mono ?_
                  rintro e w16 ⟨s', v16, rfl, ho16, hp, g16, hct, hr1, hw1⟩
                  have HS16 := Lib.hid (HS14.out.piped hp g16)
                  have hbc : got.length + ((content s).take kk).length ≤ 200 := by
                    have h1 := congrArg List.length HI.out.bytes
                    rw [List.length_append] at h1
                    have := HT.out.2.2
                    rw [List.length_take]
                    have := HLT.out.2
                    omega
                  have HI16 := Lib.hid (HI.out.flow (sent' := sent) (got' := got ++ (content s).take kk) s' hr1 hw1 (by rw [hct, List.append_assoc, List.take_append_drop]; exact HI.out.bytes))
                  obtain ⟨rl, hrl⟩ : ∃ z, (content s).take kk = z := ⟨_, rfl⟩
                  rw [hrl] at ho16 hbc HI16
                  obtain ⟨ga, gcap, rfl, hrg, _, _⟩ := ho16.reads
                  obtain ⟨rn, hrn⟩ : ∃ z, rl.length = z := ⟨_, rfl⟩
                  rw [hrn] at hrg hbc ⊢
                  have HRG := Lib.hid hrg
                  have HLB : Hid (got.length + rn ≤ 140737488355328) := Lib.hid (by omega)
                  clear HPS hp g16 hct hr1 hw1 hrl hrn hrg hbc ho16 HS14 c1 HG
                  rcases her with rfl | rfl
                  · skip
                    go_wp2_with (at_builtin; refine append_bytes_at (by rfl) (.tmp 232) (.tmp 233) (by rfl) w.heap.size _ got (by rfl) HS16.out.got ga rn gcap (by rfl) rl HRG.out HLB.out HS16.out.bel.size ?_; intro v' w19 ho hg hl)
                    have HS19 := Lib.hid (HS16.out.gotd ho hg hl)
                    clear ho hg hl
                    have h9 := HLT.out
                    go_roundw
                    case rel => exact ⟨k + 1, gs, cp, n, s', T, ls ++ y :: rs, c, o, sent, got ++ rl, by go_num, by omega, by omega, HS19, HI16, Lib.hid (by have := HT.out; omega)⟩
                    case measure => simp [intOf]; omega
                  · skip
                    go_wp2_with (at_builtin; refine append_bytes_at (by rfl) (.tmp 232) (.tmp 233) (by rfl) w.heap.size _ got (by rfl) HS16.out.got ga rn gcap (by rfl) rl HRG.out HLB.out HS16.out.bel.size ?_; intro v' w19 ho hg hl)
                    have HS19 := Lib.hid (HS16.out.gotd ho hg hl)
                    clear ho hg hl
                    have h9 := HLT.out
                    go_roundw
                    case rel => exact ⟨k + 1, gs, cp, n, s', T, ls ++ y :: rs, c, o, sent, got ++ rl, by go_num, by omega, by omega, HS19, HI16, Lib.hid (by have := HT.out; omega)⟩
                    case measure => simp [intOf]; omega
              have hq3 : (kd == 3) = false := by simpa using hk3
              by_cases hk4 : kd = 4
              · have hq4 : (kd == 4) = true := by simpa using hk4
                clear hk0 hk4
                as_aux_lemma =>
                  cases hyo : y.out
                  · have ht := stake_is (HS14.out.sets y (by simp)) 1
                    rw [hyo, take_no] at ht
                    have HTK := Lib.hid ht
                    have HYO := Lib.hid hyo
                    clear ht hyo
                    go_wp2_with fail
                    refine HTK.out.mono ?_
                    rintro e w15 ⟨rfl, h15, g15⟩
                    have hs15 := HS14.out.setted (ou := false) h15 g15
                    rw [cs_same HYO.out] at hs15
                    have HS15 := Lib.hid hs15
                    clear hs15 h15 g15 HS14 HTK
                    go_wp2
                    have h9 := HLT.out
                    go_roundw
                    case rel => exact ⟨k + 1, gs, cp, n, s, T, ls ++ y :: rs, c, o, sent, got, by go_num, by omega, by omega, HS15, HI, Lib.hid (by have := HT.out; omega)⟩
                    case measure => simp [intOf]; omega
                  · have ht := stake_is (HS14.out.sets y (by simp)) 1
                    rw [hyo, take_yes] at ht
                    have HTK := Lib.hid ht
                    have hoc : o = csOut (ls ++ rs) + 1 := by have := HI.out.ois; rw [csOut_cut, if_pos hyo] at this; exact this
                    have HOC := Lib.hid hoc
                    have HBD := Lib.hid HI.out.bounds
                    obtain ⟨f1, f2, f3, f4⟩ := shutS_is HI.out (by omega)
                    have HI16 : Hid (CInv T (ls ++ { y with out := false } :: rs) c (o - 1) (shutS s o) sent got) := Lib.hid (by
                      have h := HI.out.shut (shutS s o) f1 (by rw [f2, show o - 1 = csOut (ls ++ rs) by omega]) f3
                      rw [show csOut (ls ++ rs) = o - 1 by omega] at h
                      exact h)
                    have HF4 := Lib.hid f4
                    clear ht hyo hoc f1 f2 f3 f4
                    go_wp2_with fail
                    refine HTK.out.mono ?_
                    rintro e w15 ⟨rfl, h15, g15⟩
                    have HS15 := Lib.hid ((HS14.out.setted (ou := false) h15 g15).said (cs_out ls rs y false).1 (cs_out ls rs y false).2)
                    have HSH := Lib.hid (shut_any HS15.out (by have := HBD.out; omega) (by have := HBD.out; omega) (by have := HOC.out; omega) HI.out.there HF4.out)
                    clear h15 g15 HS14 HTK
                    go_wp2_with fail
                    refine HSH.out.mono ?_
                    rintro e w16 ⟨rfl, h16, _⟩
                    have HS16 := Lib.hid h16
                    clear h16 HSH
                    go_wp2
                    have h9 := HLT.out
                    go_roundw
                    case rel => exact ⟨k + 1, gs, cp, n, shutS s o, T, ls ++ { y with out := false } :: rs, c, o - 1, sent, got, by go_num, by omega, by omega, HS16, HI16, Lib.hid (by have := HT.out; omega)⟩
                    case measure => simp [intOf]; omega
              have hq4 : (kd == 4) = false := by simpa using hk4
              go_wp2
              have h9 := HLT.out
              go_roundw
              case rel => exact ⟨k + 1, gs, cp, n, s, T, ls ++ y :: rs, c, o, sent, got, by go_num, by omega, by omega, HS14, HI, Lib.hid (by have := HT.out; omega)⟩
              case measure => simp [intOf]; omega
        · have hx2 : (k : Int) < (L : Int) := by omega
          have hx3 : ¬ (k : Int) < 80 := by omega
          clear hlt h80
          go_wp2
          go_meet
          exact ⟨gs, cp, n, s, T, ss, c, o, sent, got, HS, HI, Lib.hid (by have := HT.out; omega)⟩
      · have hx2 : ¬ (k : Int) < (L : Int) := by omega
        clear hlt
        go_wp2
        go_meet
        exact ⟨gs, cp, n, s, T, ss, c, o, sent, got, HS, HI, Lib.hid (by have := HT.out; omega)⟩
  case rest =>
    obtain ⟨gs, cp, n, s, T, ss, c, o, sent, got, HS, HI, HT⟩ := hcut
    clear HS12 HI12 HT12
    generalize u14 = vs at *
    generalize u15 = vg at *
    obtain ⟨sa, cas, rfl, hrs, hcs, _⟩ := HS.out.sent.reads
    obtain ⟨ag, cag, rfl, hrg, hcg, _⟩ := HS.out.got.reads
    have hby := HI.out.bytes
    obtain ⟨kg, hkg⟩ : ∃ x, got.length = x := ⟨_, rfl⟩
    obtain ⟨ks, hks⟩ : ∃ x, sent.length = x := ⟨_, rfl⟩
    have hle : kg ≤ ks := by rw [← hks, ← hkg, hby, List.length_append]; omega
    have htk : sent.take kg = got := by rw [hby, ← hkg, List.take_left]
    have hk80 : ks ≤ 80 := by rw [← hks]; exact HT.out.1
    rw [hks] at hrs hcs HS ⊢
    rw [hkg] at hrg hcg HS ⊢
    obtain ⟨a', hsl, hr', _⟩ := cut_is hrs hcs kg hle
    rw [htk] at hr'
    obtain ⟨S, hS⟩ : ∃ x, strL got = x := ⟨_, rfl⟩
    have e1 : ∀ m, (convert 63 9 (.slice a' kg cas)).run Try.prog (wc.drewN m) = .ok (.string S) (wc.drewN m) := fun m => by rw [← hS]; exact run_str cas (hr'.below (below_drewN _ m))
    have e2 : ∀ m, (convert 63 9 (.slice ag kg cag)).run Try.prog (wc.drewN m) = .ok (.string S) (wc.drewN m) := fun m => by rw [← hS]; exact run_str cag (hrg.below (below_drewN _ m))
    have g0 : (S.toList != S.toList) = false := by simp
    have g1 : decide ((ks : Int) < (kg : Int)) = false := by simp; omega
    have g2 : decide (ks < kg) = false := by simp; omega
    have hsl' : ∀ W, (Instr.sliceAt 63 (.slice sa ks cas) none (some (.int .i64 (kg : Int))) none).run Try.prog W = .ok (.slice a' kg cas) W := hsl
    have g3 : (kg : Int) ≤ 140737488355328 := by omega
    have g4 : (ks : Int) ≤ 140737488355328 := by omega
    clear hrs hcs hrg hcg hby hkg hks hle htk hk80 hr' hsl hS
    go_wp2
    go_quiet (fail)
    have HSD := Lib.hid (HS.out.below (below_drewN wc nq))
    generalize wc.drewN nq = wd at *
    clear HS e1 e2 hsl' g0 g1 g2 g3 g4
    obtain ⟨D, hown, hreads⟩ := HSD.out.map.2
    have HD := Lib.hid hreads
    have HOWN := Lib.hid hown
    have HASK : Hid (∀ t ∈ ss, I64 t.pid ∧ Maps.has D (.int .i64 t.pid) = true) := Lib.hid (fun t ht => by
      have hm : t.pid ∈ csPids ss := List.mem_map_of_mem ht
      obtain ⟨u, hu, hp, _⟩ := (HI.out.alive t.pid).2 hm
      have h9 := HI.out.tr.sane u hu
      have hI : I64 t.pid := by have := HT.out; unfold I64; omega
      exact ⟨hI, by rw [(hreads _ hI).1]; unfold csP; exact decide_eq_true hm⟩)
    clear hown hreads HT
    go_wp2_with (first | (at_range; refine wpList_range_own _ rfl _ 56 rfl 3 54 lawP Try.underlying56 _ bm n D rfl HOWN.out ?_; intro w10 hrg0 hg0 hs0) | fail)
    obtain ⟨r, hr⟩ : ∃ r, wd.heap.size = r := ⟨_, rfl⟩
    have K10 : Hid (Below r wd w10) := Lib.hid ((Below.refl r wd).grown hg0 (Nat.le_of_eq hr.symm) (by intro j hj; cases hj))
    rw [hr] at hrg0 hs0 ⊢
    have HRS := Lib.hid hr
    clear hg0 HOWN hr hs0
    go_frame
    go_loopw [36, 37] (fun va vb wr => ∃ (left : Lit → Bool) (cnt : Nat) (x y : Int), va = .int .i64 x ∧ vb = .int .i64 y ∧ (x = 0 ∨ x = 1) ∧ (y = 0 ∨ y = 1) ∧ Hid (wr.ranges Try.prog 3 ptrE bm r n D left cnt) ∧ Hid (∀ z, left z = true → Maps.has D z = true) ∧ Hid (Below r wd wr) ∧ Hid (EndsSeen left ss x y)) (fun _ _ wr => wr.rangeLeft bm r)
    case atStart => exact ⟨_, _, 0, 0, rfl, rfl, .inl rfl, .inl rfl, Lib.hid hrg0, Lib.hid (fun z h => h), K10, Lib.hid (ends_start fun t ht => (HASK.out t ht).2)⟩
    case round =>
      obtain ⟨left, cnt, x, y, rfl, rfl, hx, hy, HRG, HSUB, HBX, HES⟩ := hrel
      clear hrg0 K10
      have HSX := Lib.hid (HSD.out.below (by rw [HRS.out]; exact HBX.out))
      go_wp2_with (first | (at_next; refine wpList_mp_next (p := fun _ => true) (F := fun _ => 0) rfl _ rfl r _ _ _ rfl HRG.out ?_ ?_) | fail)
      · intro _ hl0
        have hdn := ends_done HES.out hl0 hy HI.out.one
        obtain ⟨rfl, hy2⟩ := hdn
        rw [← HI.out.ois] at hy2
        have hcnt := fcount_is HSX.out.files
        rw [count_ends HI.out.pos] at hcnt
        have c1 := cell_of_row HSX.out.bp 0
        have hen := pends_is HSX.out.pipes 1 0 rfl s rfl HI.out.there
        rw [HI.out.reads, HI.out.writes] at hen
        have HEN := Lib.hid hen
        have HSC := Lib.hid HSX
        clear hl0 HRG HSUB HD HES hx hy hcnt hen
        by_cases ho : o = 0
        · rw [if_pos ho] at hy2
          subst hy2
          have HCT := Lib.hid (fun w' b => fcount_is (HSX.out.below (W' := w') b).files)
          rw [if_pos ho] at HEN
          go_wp2_with fail
          refine HEN.out.mono ?_
          rintro e w20 ⟨rfl, b20⟩
          have hct := HCT.out w20 b20
          rw [count_ends HI.out.pos, if_pos ho] at hct
          have HCU := Lib.hid hct
          have HS20 := Lib.hid (HSX.out.below b20)
          have c1 := cell_of_row HS20.out.bf 0
          clear b20 hct HSX HEN HCT
          go_wp2_with fail
          refine HCU.out.mono ?_
          rintro e w21 ⟨rfl, b21⟩
          have HB21 := Lib.hid (HS20.out.below b21).bel
          clear b21 HS20 HCU
          go_wp2
          go_ret
          exact ⟨by simp, HB21.out⟩
        · rw [if_neg ho] at hy2
          subst hy2
          have HCT := Lib.hid (fun w' b => fcount_is (HSX.out.below (W' := w') b).files)
          rw [if_neg ho] at HEN
          go_wp2_with fail
          refine HEN.out.mono ?_
          rintro e w20 ⟨rfl, b20⟩
          have hct := HCT.out w20 b20
          rw [count_ends HI.out.pos, if_neg ho] at hct
          have HCU := Lib.hid hct
          have HS20 := Lib.hid (HSX.out.below b20)
          have c1 := cell_of_row HS20.out.bf 0
          clear b20 hct HSX HEN HCT
          go_wp2_with fail
          refine HCU.out.mono ?_
          rintro e w21 ⟨rfl, b21⟩
          have HB21 := Lib.hid (HS20.out.below b21).bel
          clear b21 HS20 HCU
          go_wp2
          go_ret
          exact ⟨by simp, HB21.out⟩
      · intro k z w11 cnt1 hI hlx hat hrg1 hlt hg1 hs1 hen
        have hk := HSUB.out _ hlx
        rw [(HD.out k hI).1] at hk
        have hmem : k ∈ csPids ss := of_decide_eq_true hk
        obtain ⟨u, hu, hup⟩ := List.mem_map.1 hmem
        have hz : z = (u.g : Int) + 1 := by
          have h1 := (HD.out k hI).2
          rw [hat] at h1
          injection h1 with h1
          injection h1 with _ h1
          rw [h1, ← hup]
          exact csF_at HI.out.nodup hu
        subst hz
        subst hup
        rw [ptrV_to] at hen ⊢
        have B11 : Hid (Below r wd w11) := Lib.hid (HBX.out.grown hg1 (Nat.le_trans (by rw [HRS.out]; exact Nat.le_refl _) HBX.out.size) (by intro j hj; obtain rfl := Option.some.inj hj; exact Nat.le_refl _))
        have S11 := Lib.hid (HSD.out.below (by rw [HRS.out]; exact B11.out))
        have hst := ends_step HES.out HI.out.nodup hu
        have HST := Lib.hid hst
        have hg0 := sget_is (S11.out.sets u hu) 0
        have hg2 := sget_is (S11.out.sets u hu) 1
        rw [get_zero] at hg0
        have HG0 := Lib.hid hg0
        have HR1 := Lib.hid hrg1
        have HLT := Lib.hid hlt
        clear hlx hat hrg1 hlt hg1 hs1 hI hk hmem hg0 HSX HES
        cases huo : u.out
        · rw [huo, get_one.2] at hg2
          have HG2 := Lib.hid hg2
          rw [huo] at HST
          clear hg2
          go_wp2_with fail
          refine HG0.out.mono ?_
          rintro e w12 ⟨rfl, rfl⟩
          go_wp2_with fail
          refine HG2.out.mono ?_
          rintro e w12 ⟨rfl, rfl⟩
          go_wp2
          refine ⟨⟨_, cnt1, 1, y, rfl, rfl, .inr rfl, hy, HR1, Lib.hid fun z hz => HSUB.out z ?_, B11, Lib.hid (by have h := HST.out; rwa [if_neg (by decide)] at h)⟩, ?_⟩
          · rw [Bool.and_eq_true] at hz; exact hz.1
          · rw [HR1.out.left_eq, HRG.out.left_eq]; exact HLT.out
        · rw [huo, get_one.1] at hg2
          have HG2 := Lib.hid hg2
          rw [huo] at HST
          clear hg2
          go_wp2_with fail
          refine HG0.out.mono ?_
          rintro e w12 ⟨rfl, rfl⟩
          go_wp2_with fail
          refine HG2.out.mono ?_
          rintro e w12 ⟨rfl, rfl⟩
          go_wp2
          refine ⟨⟨_, cnt1, 1, 1, rfl, rfl, .inr rfl, .inr rfl, HR1, Lib.hid fun z hz => HSUB.out z ?_, B11, Lib.hid (by have h := HST.out; exact h)⟩, ?_⟩
          · rw [Bool.and_eq_true] at hz; exact hz.1
          · rw [HR1.out.left_eq, HRG.out.left_eq]; exact HLT.out
end Go.Proofs.Ytebkkbmplndcpaa
