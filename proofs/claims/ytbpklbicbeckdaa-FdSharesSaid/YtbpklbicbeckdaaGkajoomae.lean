/- FdShares' walk. -/
import Derived.Test.YtbpklbicbeckdaaGhbjdmjjg
import Derived.Test.YtbpklbicbeckdaaGmgmgdbll
import Derived.Deep.DeepCutAuto
import Derived.Deep.CutBlock
import Derived.Maps.RangeWalk
namespace Go.Proofs.Ytbpklbicbeckdaa
open Go.ChangeShapes Go.WideShapes Go.ChangeAt Go.RowKit Go.Sort
set_option linter.unusedVariables false
set_option linter.unusedSimpArgs false
set_option maxRecDepth 100000

theorem idsOf_mem {l : List ShD} {k : Nat} {o : ShD} (h : l[k]? = some o) : o.ids ∈ idsOf l := List.mem_of_getElem? (idsOf_get h)
set_option maxHeartbeats 6400000 in
theorem fdShares_walk (a : Option Addr) (cap : Nat) (l : List Act20D) (w : World) (hr : ReadsR w a 4 (rowsOf act20V l)) (hfit : ∀ u ∈ l, Act20Fits u) (hcap : l.length ≤ cap) :
    Calls Try.prog 7 #[.slice a l.length cap] w fun e w' => e = .returned (.bool true) ∧ Below w.heap.size w w' := by
  obtain ⟨L, hL⟩ : ∃ L, l.length = L := ⟨_, rfl⟩
  have HLN := Lib.hid hL
  rw [hL] at hcap ⊢
  have HR := Lib.hid hr
  clear hr hfit hL
  go_enter Try.func7, Try.ntmps7
  go_wp2_with fail
  refine (awake20_true w).mono ?_
  rintro e w1 ⟨rfl, b1⟩
  have B1 := Lib.hid b1
  clear b1
  go_wp2_with fail
  refine (fnew_is 20 w1 20 (by decide)).mono ?_
  rintro e w2 ⟨gf, gfs, rfl, hf, b2⟩
  have HF2 : Hid (IsFiles w.heap.size w2 gf gfs (List.replicate 20 zeroF)) := Lib.hid (hf.less B1.out.size)
  have B2 := Lib.hid (below_next B1.out b2)
  clear hf b2
  go_wp2_with fail
  refine (snew_is 8 w2 8 (by decide)).mono ?_
  rintro e w3 ⟨g, gs, sc, rfl, hs, b3⟩
  have hk4 := below_box w3 (.cells #[.pointer (some ⟨g, 0, none⟩)] 84)
  have B3 := Lib.hid (below_next B2.out b3)
  have ho4 : OwnsV w.heap.size (w3.alloc (.cells #[.pointer (some ⟨g, 0, none⟩)] 84)) 84 (.slice (some ⟨w3.heap.size, 0, none⟩) 1 1) [.pointer (some ⟨g, 0, none⟩)] := OwnsV.new #[.pointer (some ⟨g, 0, none⟩)] B3.out.size (by unfold maxLen; simp)
  obtain ⟨w4, hw4⟩ : ∃ W, w3.alloc (.cells #[.pointer (some ⟨g, 0, none⟩)] 84) = W := ⟨_, rfl⟩
  rw [hw4] at hk4 ho4
  obtain ⟨g4, hg4⟩ : ∃ x, w3.heap.size = x := ⟨_, rfl⟩
  rw [hg4] at ho4
  have HSH : Hid (Sh w gf gfs (List.replicate 20 zeroF) (.slice (some ⟨g4, 0, none⟩) 1 1) (sptrs [⟨g, gs, sc, List.replicate 8 (-1)⟩]) [⟨g, gs, sc, List.replicate 8 (-1)⟩] w4) := Lib.hid (by
    refine ⟨(HF2.out.below b3).below hk4, fun o ho => ?_, fun i j o p hi hj hne => ?_, ho4, below_next B3.out hk4⟩
    · obtain rfl : o = ⟨g, gs, sc, List.replicate 8 (-1)⟩ := by simpa using ho
      exact (hs.less B2.out.size).below hk4
    · have h1 := (List.getElem?_eq_some_iff.1 hi).1
      have h2 := (List.getElem?_eq_some_iff.1 hj).1
      simp at h1 h2
      omega)
  have HIV := Lib.hid (inv_start g gs sc)
  clear hs b3 hk4 ho4 HF2 B1 B2 B3
  go_upto_block 0 with fail
  go_cut [4] (fun v4 wr => ∃ (fl : List FileD) (os : List ShD), Hid (Sh w gf gfs fl v4 (sptrs os) os wr) ∧ Hid (Inv fl (idsOf os)))
  case first =>
    go_wp2_with fail
    go_loopw [4, 5] (fun v4 i wr => ∃ (j : Nat) (fl : List FileD) (os : List ShD), j ≤ L ∧ j ≤ 60 ∧ i = .int .i64 (j : Int) ∧ Hid (Sh w gf gfs fl v4 (sptrs os) os wr) ∧ Hid (Inv fl (idsOf os))) (fun _ i _ => 60 - (intOf i).toNat)
    case atStart => exact ⟨0, _, _, Nat.zero_le _, by decide, rfl, HSH, HIV⟩
    case round =>
      obtain ⟨j, fl, os, hj1, hj2, rfl, HSA, HIA⟩ := hrel
      clear HSH HIV
      generalize u4 = v4 at *
      by_cases hlt : j < L
      · by_cases h60 : j < 60
        · obtain ⟨⟨kd, x, y, z⟩, hx⟩ : ∃ x, l[j]? = some x := ⟨_, List.getElem?_eq_getElem (by rw [HLN.out]; exact hlt)⟩
          obtain ⟨b, off, rfl, hb, hc⟩ := (HR.out.below HSA.out.below).row (rowsOf_get hx)
          have c0 : wr.cell? ⟨b, off + j * 4, none⟩ = some (.int .i64 kd) := hc 0 _ rfl
          have c1 : wr.cell? ⟨b, off + j * 4 + 1, none⟩ = some (.int .i64 x) := by have := hc 1 _ rfl; rwa [← Nat.add_assoc] at this
          have c2 : wr.cell? ⟨b, off + j * 4 + 2, none⟩ = some (.int .i64 y) := by have := hc 2 _ rfl; rwa [← Nat.add_assoc] at this
          have c3 : wr.cell? ⟨b, off + j * 4 + 3, none⟩ = some (.int .i64 z) := by have := hc 3 _ rfl; rwa [← Nat.add_assoc] at this
          have hx1 : (0 : Int) ≤ (j : Int) := by omega
          have hx2 : (j : Int) < (L : Int) := by omega
          have hx3 : (j : Int) < 60 := by omega
          have HLT := Lib.hid (And.intro hlt h60)
          have kb := below_box wr (.cells #[.int .i64 kd, .int .i64 x, .int .i64 y, .int .i64 z] 65)
          have nb := heap_alloc_new wr (.cells #[.int .i64 kd, .int .i64 x, .int .i64 y, .int .i64 z] 65)
          obtain ⟨wb, hwb⟩ : ∃ W, wr.alloc (.cells #[.int .i64 kd, .int .i64 x, .int .i64 y, .int .i64 z] 65) = W := ⟨_, rfl⟩
          rw [hwb] at kb nb
          obtain ⟨gb, hgb⟩ : ∃ x, wr.heap.size = x := ⟨_, rfl⟩
          rw [hgb] at nb
          have HSB := Lib.hid (HSA.out.more kb)
          have d0 := cell_of_row nb 0
          have d1 := cell_of_row nb 1
          have d2 := cell_of_row nb 2
          have d3 := cell_of_row nb 3
          clear hc hx hb kb nb hlt h60 HSA
          obtain ⟨a7, c7, rfl, hr7, _, _⟩ := HSB.out.own.reads
          obtain ⟨N, hN⟩ : ∃ N, os.length = N := ⟨_, rfl⟩
          have hN1 : 1 ≤ N := by have := HIA.out.many.1; rw [idsOf_length, hN] at this; exact this
          have hN6 : N ≤ 6 := by have := HIA.out.many.2; rw [idsOf_length, hN] at this; exact this
          rw [sptrs_length, hN] at hr7 HSB ⊢
          have HN := Lib.hid hN
          obtain ⟨k, hk, hkN, t1, t2⟩ := turn20 x N (by omega)
          obtain ⟨o, ho⟩ : ∃ o, os[k]? = some o := ⟨_, List.getElem?_eq_getElem (by rw [hN]; exact hkN)⟩
          obtain ⟨b7, o7, rfl, _, k7⟩ := hr7.at (sptrs_get ho)
          have HO := Lib.hid ho
          have hN0 : (0 : Int) < (N : Int) := by omega
          have hNz : ¬ (N : Int) = 0 := by omega
          have hN7 : (N : Int) ≤ 6 := by omega
          have hk0 : (0 : Int) ≤ (k : Int) := by omega
          have hk9 : (k : Int) < (N : Int) := by omega
          obtain ⟨r, hr4, hr5, s1, s2⟩ := turn20 kd 4 (by decide)
          have hq4 : Int.tmod (Int.tmod kd 4 + 4) 4 = (r : Int) := hr4
          have s3 : -4 < Int.tmod kd 4 := s1
          have s4 : Int.tmod kd 4 < 4 := s2
          have HMEM := Lib.hid (idsOf_mem ho)
          clear hr7 hN ho hr4 s1 s2
          obtain hz | hz | hz | hz : r = 0 ∨ r = 1 ∨ r = 2 ∨ r = 3 := by omega
          · subst hz
            have hq5 : Int.tmod (Int.tmod kd 4 + 4) 4 = 0 := hq4
            clear hq4 hr5
            rcases open_or HIA.out with hq | ⟨i, p, hi, hp, hp0, hq⟩
            · have HP := Lib.hid (fopen_is HSB.out.files 1 1 1)
              rw [hq] at HP
              dsimp only at HP
              clear hq
              go_wp2_with fail
              refine HP.out.mono ?_
              rintro e w5 ⟨rfl, hf5, g5⟩
              have HS5 := Lib.hid (HSB.out.filed hf5 g5)
              clear hf5 g5
              go_wp2
              have h1 := HLT.out
              go_roundw
              case rel => exact ⟨j + 1, fl, os, HLT.out.1, HLT.out.2, by go_num, Lib.hid (HS5.out), Lib.hid (HIA.out)⟩
              case measure => simp [intOf]; omega
            · have HP := Lib.hid (fopen_is HSB.out.files 1 1 1)
              rw [hq] at HP
              dsimp only at HP
              have HPI := Lib.hid (And.intro hp hp0)
              clear hq hp hp0
              go_wp2_with fail
              refine HP.out.mono ?_
              rintro e w5 ⟨rfl, hf5, g5⟩
              have HS5 := Lib.hid (HSB.out.filed hf5 g5)
              have HT := Lib.hid (sput_is (HS5.out.at HO.out) (i : Int))
              clear hf5 g5
              have HIL := Lib.hid (show i < fl.length by rw [HIA.out.len]; exact hi)
              have hi0 : (0 : Int) ≤ (i : Int) := by omega
              have hi2 : (i : Int) < 20 := by omega
              clear hi
              rcases putS_or o.ids i with hq | ⟨pp, hpp, hq⟩
              · rw [hq] at HT
                dsimp only at HT
                clear hq
                go_wp2_with fail
                refine HT.out.mono ?_
                rintro e w6 ⟨rfl, hs6, g6⟩
                have HS6 := Lib.hid (HS5.out.putP HO.out hs6 g6)
                clear hs6 g6
                have hopen := openAt_yes (fl := fl.set i ⟨1, 1, 0, 1, 1⟩) (i := i) (List.getElem?_set_self HIL.out) (show knownB ⟨1, 1, 0, 1, 1⟩ = true by decide)
                have HFEW : Hid (FewRefs 1000 (fl.set i ⟨1, 1, 0, 1, 1⟩)) := Lib.hid (FewRefs.mono (few_set HIA.out.few i _ (by decide) (by decide)) (by decide))
                obtain ⟨p', bl, hpr, hcl, hlast⟩ := closeF_yes hopen
                have HC := Lib.hid (fclose_is HS6.out.files HS6.out.below.size HFEW.out (i : Int))
                rw [hcl] at HC
                dsimp only at HC
                unfold fileA at HC
                clear hcl
    
                obtain rfl := hlast rfl
                have HPR := Lib.hid hpr
                clear hpr hopen hlast
                go_wp2_with fail
                refine HC.out.mono ?_
                rintro e w7 ⟨rfl, hf7, g7⟩
                rw [List.set_set] at hf7
                have HS7 := Lib.hid (HS6.out.filed hf7 g7)
                clear hf7 g7
                go_wp2
                have h1 := HLT.out
                go_roundw
                case rel => exact ⟨j + 1, fl.set i p', (os.set k ⟨o.g, o.gs, o.cap, o.ids⟩), HLT.out.1, HLT.out.2, by go_num, Lib.hid (HS7.out.more (below_box _ _)), Lib.hid ((HIA.out.same HPI.out.1 (by rw [HPR.out, HPI.out.2]; decide)).reset HO.out)⟩
                case measure => simp [intOf]; omega
              · rw [hq] at HT
                dsimp only at HT
                have HPP := Lib.hid hpp
                clear hq hpp
                go_wp2_with fail
                refine HT.out.mono ?_
                rintro e w6 ⟨rfl, hs6, g6⟩
                have HS6 := Lib.hid (HS5.out.putP HO.out hs6 g6)
                clear hs6 g6
                go_wp2
                have h1 := HLT.out
                go_roundw
                case rel => exact ⟨j + 1, fl.set i ⟨1, 1, 0, 1, 1⟩, (os.set k ⟨o.g, o.gs, o.cap, (o.ids.set pp (i : Int))⟩), HLT.out.1, HLT.out.2, by go_num, Lib.hid (HS6.out), Lib.hid ((HIA.out.more (o' := ⟨1, 1, 0, 1, 1⟩) (idsOf_get HO.out) HPP.out HPI.out.1 (by rw [HPI.out.2]; decide)).set)⟩
                case measure => simp [intOf]; omega
          · subst hz
            have hq5 : Int.tmod (Int.tmod kd 4 + 4) 4 = 1 := hq4
            clear hq4 hr5
            have HT := Lib.hid (stake_is (HSB.out.at HO.out) y)
            rcases takeS_or o.ids y with hq | ⟨pp, xx, hpp, hne, hq⟩
            · rw [hq] at HT
              dsimp only at HT
              clear hq
              go_wp2_with fail
              refine HT.out.mono ?_
              rintro e w5 ⟨rfl, hs5, g5⟩
              have HS5 := Lib.hid (HSB.out.putP HO.out hs5 g5)
              clear hs5 g5
              go_wp2
              have h1 := HLT.out
              go_roundw
              case rel => exact ⟨j + 1, fl, (os.set k ⟨o.g, o.gs, o.cap, o.ids⟩), HLT.out.1, HLT.out.2, by go_num, Lib.hid (HS5.out), Lib.hid (HIA.out.reset HO.out)⟩
              case measure => simp [intOf]; omega
            · obtain ⟨i, p, rfl, hi, hp, hkn, hopen⟩ := HIA.out.known HMEM.out (List.mem_of_getElem? hpp) hne
              rw [hq] at HT
              dsimp only at HT
              have HPP := Lib.hid hpp
              have HPI := Lib.hid hp
              have HFEW : Hid (FewRefs 1000 fl) := Lib.hid (FewRefs.mono HIA.out.few (by decide))
              have HOP := Lib.hid hopen
              have hi0 : (0 : Int) ≤ (i : Int) := by omega
              have hi2 : (i : Int) < 20 := by omega
              clear hq hpp hp hne hkn hopen hi
              go_wp2_with fail
              refine HT.out.mono ?_
              rintro e w5 ⟨rfl, hs5, g5⟩
              have HS5 := Lib.hid (HSB.out.putP HO.out hs5 g5)
              clear hs5 g5
              obtain ⟨p', bl, hpr, hcl, hlast⟩ := closeF_yes HOP.out
              have HC := Lib.hid (fclose_is HS5.out.files HS5.out.below.size HFEW.out (i : Int))
              rw [hcl] at HC
              dsimp only at HC
              unfold fileA at HC
              clear hcl
  
              have HPR := Lib.hid hpr
              clear hpr hlast
              go_wp2_with fail
              refine HC.out.mono ?_
              rintro e w7 ⟨rfl, hf7, g7⟩
              have HS7 := Lib.hid (HS5.out.filed hf7 g7)
              clear hf7 g7
              go_wp2
              have h1 := HLT.out
              go_roundw
              case rel => exact ⟨j + 1, fl.set i p', (os.set k ⟨o.g, o.gs, o.cap, (o.ids.set pp (-1))⟩), HLT.out.1, HLT.out.2, by go_num, Lib.hid (HS7.out.more (below_box _ _)), Lib.hid ((HIA.out.less (idsOf_get HO.out) HPP.out HPI.out HPR.out).set)⟩
              case measure => simp [intOf]; omega
          · subst hz
            have hq5 : Int.tmod (Int.tmod kd 4 + 4) 4 = 2 := hq4
            clear hq4 hr5
            have HT := Lib.hid (sget_is (HSB.out.at HO.out) y)
            rcases getS_or o.ids y with hq | ⟨pq, xx, rfl, hpq, hne, hq⟩
            · rw [hq] at HT
              dsimp only at HT
              clear hq
              go_wp2_with fail
              refine HT.out.mono ?_
              rintro e w5 ⟨rfl, rfl⟩
              go_wp2
              have h1 := HLT.out
              go_roundw
              case rel => exact ⟨j + 1, fl, os, HLT.out.1, HLT.out.2, by go_num, Lib.hid (HSB.out), Lib.hid (HIA.out)⟩
              case measure => simp [intOf]; omega
            · obtain ⟨i, p, rfl, hi, hp, hkn, hopen⟩ := HIA.out.known HMEM.out (List.mem_of_getElem? hpq) hne
              rw [hq] at HT
              dsimp only at HT
              have HPI := Lib.hid hp
              have HFEW : Hid (FewRefs 1000 fl) := Lib.hid (FewRefs.mono HIA.out.few (by decide))
              have HOP := Lib.hid hopen
              have hi0 : (0 : Int) ≤ (i : Int) := by omega
              have hi2 : (i : Int) < 20 := by omega
              clear hq hpq hp hne hkn hopen hi
              go_wp2_with fail
              refine HT.out.mono ?_
              rintro e w5 ⟨rfl, rfl⟩
              have HU := Lib.hid (sput_is (HSB.out.at HO.out) (i : Int))
              rcases putS_or o.ids i with hq | ⟨pp, hpp, hq⟩
              · rw [hq] at HU
                dsimp only at HU
                clear hq
                go_wp2_with fail
                refine HU.out.mono ?_
                rintro e w6 ⟨rfl, hs6, g6⟩
                have HS6 := Lib.hid (HSB.out.putP HO.out hs6 g6)
                clear hs6 g6
                go_wp2
                have h1 := HLT.out
                go_roundw
                case rel => exact ⟨j + 1, fl, (os.set k ⟨o.g, o.gs, o.cap, o.ids⟩), HLT.out.1, HLT.out.2, by go_num, Lib.hid (HS6.out), Lib.hid (HIA.out.reset HO.out)⟩
                case measure => simp [intOf]; omega
              · rw [hq] at HU
                dsimp only at HU
                have HPP := Lib.hid hpp
                clear hq hpp
                go_wp2_with fail
                refine HU.out.mono ?_
                rintro e w6 ⟨rfl, hs6, g6⟩
                have HS6 := Lib.hid (HSB.out.putP HO.out hs6 g6)
                have HV := Lib.hid (fref_is HS6.out.files HFEW.out (i : Int))
                rw [refF_yes HOP.out] at HV
                dsimp only at HV
                clear hs6 g6
                go_wp2_with fail
                refine HV.out.mono ?_
                rintro e w7 ⟨rfl, hf7, g7⟩
                have HS7 := Lib.hid (HS6.out.filed hf7 g7)
                clear hf7 g7
                go_wp2
                have h1 := HLT.out
                go_roundw
                case rel => exact ⟨j + 1, _, (os.set k ⟨o.g, o.gs, o.cap, (o.ids.set pp (i : Int))⟩), HLT.out.1, HLT.out.2, by go_num, Lib.hid (HS7.out), Lib.hid ((HIA.out.more (idsOf_get HO.out) HPP.out HPI.out rfl).set)⟩
                case measure => simp [intOf]; omega
          · subst hz
            have hq5 : Int.tmod (Int.tmod kd 4 + 4) 4 = 3 := hq4
            clear hq4 hr5
            by_cases h6 : N < 6
            · have hs6 : (N : Int) < 6 := by omega
              have HN6 := Lib.hid h6
              clear h6
              go_wp2_with fail
              refine (sclone_is (HSB.out.at HO.out)).mono ?_
              rintro e w5 ⟨g', gs', cap', rfl, hs5, b5⟩
              have HS5 := Lib.hid (HSB.out.grow hs5 b5)
              have HCL := Lib.hid (sall_is hs5)
              clear hs5 b5
              go_wp2_with fail
              refine HCL.out.mono ?_
              rintro e w6 ⟨v6, rfl, ho6, b6⟩
              have HS6 := Lib.hid (HS5.out.more b6)
              have ho6b := ho6.less HS5.out.below.size
              obtain ⟨a8, c8, rfl, hr8, _, _⟩ := ho6.reads
              obtain ⟨ALL, hALL⟩ : ∃ A, allL o.ids = A := ⟨_, rfl⟩
              obtain ⟨m, hm⟩ : ∃ m, ALL.length = m := ⟨_, rfl⟩
              have hm8 : m ≤ 8 := by
                rw [← hm, ← hALL, allL_length]
                refine Nat.le_trans (placesL_length _ _ _) ?_
                rw [(HIA.out.each _ HMEM.out).2.1]
                exact Nat.le_refl _
              have HALL := Lib.hid hALL
              have HML := Lib.hid hm
              rw [idV_length, hALL, hm] at ho6b ⊢
              have HOW := Lib.hid ho6b
              have HMID := Lib.hid HIA.out.mid
              have HAM : Hid (∀ x ∈ ALL, x ∈ o.ids ∧ x ≠ -1) := Lib.hid (by rw [← hALL]; exact fun x h => all_mem h)
              clear ho6 b6 hr8 hALL hm ho6b HCL HS5
              go_wp2_with fail
              go_loopw [82] (fun i wr => ∃ (q : Nat) (f2 : List FileD), q ≤ m ∧ i = .int .i64 (q : Int) ∧ Hid (Sh w gf gfs f2 (.slice (some ⟨b7, o7, none⟩) N c7) (sptrs os) (os ++ [⟨g', gs', cap', o.ids⟩]) wr) ∧ Hid (Mid f2 (idsOf os) (ALL.take q)) ∧ Hid (OwnsV w.heap.size wr 3 (.slice a8 m c8) (idV ALL))) (fun i _ => m - (intOf i).toNat)
              case atStart => exact ⟨0, fl, Nat.zero_le _, rfl, HS6, HMID, HOW⟩
              case round =>
                obtain ⟨q, f2, hq, rfl, HSC, HMI, HOV⟩ := hrel
                clear HS6 HMID HOW
                by_cases hlq : q < m
                · obtain ⟨xx, hxx⟩ : ∃ x, ALL[q]? = some x := ⟨_, List.getElem?_eq_getElem (by rw [HML.out]; exact hlq)⟩
                  obtain ⟨hm1, hm2⟩ := HAM.out xx (List.mem_of_getElem? hxx)
                  obtain ⟨i, p, rfl, hi, hp, hopen⟩ := HMI.out.known HIA.out HMEM.out hm1 hm2
                  obtain ⟨a9, c9, e9, hr9, _, _⟩ := HOV.out.reads
                  injection e9 with e9 e10 e11
                  subst e9
                  obtain ⟨b8, o8, rfl, _, k8⟩ := hr9.at (idV_get hxx)
                  have HV := Lib.hid (fref_is HSC.out.files (FewRefs.mono (HMI.out.few HIA.out (by rw [List.length_take]; omega)) (by decide)) (i : Int))
                  rw [refF_yes hopen] at HV
                  dsimp only at HV
                  have HMN : Hid (Mid _ (idsOf os) (ALL.take (q + 1))) := Lib.hid (by rw [List.take_add_one, hxx]; exact HMI.out.ref (o' := { p with refs := p.refs + 1 }) hp rfl)
                  have hq0 : (0 : Int) ≤ (q : Int) := by omega
                  have hq1 : (q : Int) < (m : Int) := by omega
                  have hi0 : (0 : Int) ≤ (i : Int) := by omega
                  have hi2 : (i : Int) < 20 := by omega
                  have HLQ := Lib.hid hlq
                  clear hm1 hm2 hp hopen hr9 e10 e11 hxx hlq hi
                  go_wp2_with fail
                  refine HV.out.mono ?_
                  rintro e w7 ⟨rfl, hf7, g7⟩
                  have HS7 := Lib.hid (HSC.out.filed hf7 g7)
                  have HO7 := Lib.hid (HOV.out.keptFl HSC.out.files g7 (by decide))
                  clear hf7 g7
                  go_wp2
                  have h1 := HLQ.out
                  go_roundw
                  case rel => exact ⟨q + 1, _, HLQ.out, by go_num, HS7, HMN, HO7⟩
                  case measure => simp [intOf]; omega
                · obtain rfl : q = m := by omega
                  have hge : ¬ (q : Int) < (q : Int) := by omega
                  have HIN : Hid (Inv f2 (idsOf (os ++ [⟨g', gs', cap', o.ids⟩]))) := Lib.hid (by
                    have h1 := HMI.out
                    rw [List.take_of_length_le (by rw [HML.out]; exact Nat.le_refl _), ← HALL.out] at h1
                    exact Inv.snoc (h1.done HIA.out HMEM.out (by rw [idsOf_length, HN.out]; exact HN6.out)))
                  have kp := below_box wr (.cells #[.pointer (some ⟨g', 0, none⟩)] 84)
                  have rp := ReadsV.lit wr #[.pointer (some ⟨g', 0, none⟩)] 84
                  obtain ⟨wp, hwp⟩ : ∃ W, wr.alloc (.cells #[.pointer (some ⟨g', 0, none⟩)] 84) = W := ⟨_, rfl⟩
                  rw [hwp] at kp rp
                  obtain ⟨gp, hgp⟩ : ∃ x, wr.heap.size = x := ⟨_, rfl⟩
                  rw [hgp] at rp
                  have HRP : Hid (ReadsV wp (some ⟨gp, 0, none⟩) 1 [.pointer (some ⟨g', 0, none⟩)]) := Lib.hid rp
                  have HSP := Lib.hid (HSC.out.more kp)
                  have HSL : Hid ((sptrs os).length ≤ 6) := Lib.hid (by rw [sptrs_length, HN.out]; exact hN6)
                  clear kp rp hlq HMI HOV
                  go_wp2_with (first
                    | (at_builtin; refine wpList_append_vals rfl _ _ 87 rfl w.heap.size 84 (.pointer none) 8 Try.underlying87 info_setptr rfl _ (sptrs os) (by rfl) HSP.out.own _ _ _ (by rfl) [.pointer (some ⟨g', 0, none⟩)] HRP.out (by intro u hu; simp at hu; subst hu; rfl) (by have := HSL.out; simp; omega) (by have := HSL.out; unfold maxLen; simp; omega) HSP.out.below.size ?_; intro v7' w7 o9 g9; have HS7 := Lib.hid (HSP.out.push o9 g9); rw [sptrs_snoc os g' gs' cap' o.ids] at HS7; clear o9 g9)
                    | fail)
                  have h1 := HLT.out
                  go_roundw
                  case rel => exact ⟨j + 1, f2, os ++ [⟨g', gs', cap', o.ids⟩], HLT.out.1, HLT.out.2, by go_num, HS7, HIN⟩
                  case measure => simp [intOf]; omega
            · have hs6 : ¬ (N : Int) < 6 := by omega
              clear h6
              go_wp2
              have h1 := HLT.out
              go_roundw
              case rel => exact ⟨j + 1, fl, os, HLT.out.1, HLT.out.2, by go_num, Lib.hid (HSB.out), Lib.hid (HIA.out)⟩
              case measure => simp [intOf]; omega
        · have hx2 : (j : Int) < (L : Int) := by omega
          have hx3 : ¬ (j : Int) < 60 := by omega
          clear hlt h60
          go_wp2_with fail
          go_meet
          exact ⟨fl, os, HSA, HIA⟩
      · have hx2 : ¬ (j : Int) < (L : Int) := by omega
        clear hlt
        go_wp2_with fail
        go_meet
        exact ⟨fl, os, HSA, HIA⟩
  case rest =>
    obtain ⟨fl, os, HSA, HIA⟩ := hcut
    generalize u4 = v4 at *
    clear HSH HIV
    obtain ⟨a7, c7, rfl, hr7, _, _⟩ := HSA.out.own.reads
    obtain ⟨N, hN⟩ : ∃ N, os.length = N := ⟨_, rfl⟩
    have hN6 : N ≤ 6 := by have := HIA.out.many.2; rw [idsOf_length, hN] at this; exact this
    rw [sptrs_length, hN] at hr7 HSA ⊢
    have HN := Lib.hid hN
    have HR7 := Lib.hid hr7
    clear hr7 hN
    have hmk := @run_makeMap Try.prog
    generalize wc = wk at *
    have hb0 := (Below.refl wk.heap.size wk).alloc (Nat.le_refl _) (.map #[] 0)
    have hw0 := wh_start wk
    have hi0 : FA [] = fun _ => 0 := rfl
    obtain ⟨wm, hwm⟩ : ∃ W, wk.alloc (.map #[] 0) = W := ⟨_, rfl⟩
    rw [hwm] at hb0 hw0
    obtain ⟨bm, hbm⟩ : ∃ x, wk.heap.size = x := ⟨_, rfl⟩
    rw [hbm] at hb0 hw0
    have HB0 := Lib.hid hb0
    have HW0 : Hid (WhA bm wm (accOf os 0)) := Lib.hid hw0
    clear hb0 hw0 hi0
    go_wp2_with fail
    have HBM := Lib.hid hbm
    clear hmk hwm hbm
    go_loopw [173] (fun i wr => ∃ q : Nat, q ≤ N ∧ i = .int .i64 (q : Int) ∧ Hid (Below bm wk wr) ∧ Hid (WhA bm wr (accOf os q))) (fun i _ => N - (intOf i).toNat)
    case atStart => exact ⟨0, Nat.zero_le _, rfl, HB0, HW0⟩
    case round =>
      obtain ⟨q, hq, rfl, HBR, HWR⟩ := hrel
      clear HB0 HW0
      have HBK : Hid (Below wk.heap.size wk wr) := Lib.hid (by rw [HBM.out]; exact HBR.out)
      have HSR := Lib.hid (HSA.out.more HBK.out)
      by_cases hlq : q < N
      · obtain ⟨o, ho⟩ : ∃ o, os[q]? = some o := ⟨_, List.getElem?_eq_getElem (by rw [HN.out]; exact hlq)⟩
        obtain ⟨b7, o7, rfl, _, k7⟩ := (HR7.out.below HBK.out).at (sptrs_get ho)
        have HAL := Lib.hid (sall_is (HSR.out.at ho))
        have HO := Lib.hid ho
        have hq0 : (0 : Int) ≤ (q : Int) := by omega
        have hq1 : (q : Int) < (N : Int) := by omega
        have hq6 : (q : Int) < 6 := by omega
        have HLQ := Lib.hid hlq
        clear ho hlq
        go_wp2_with fail
        refine HAL.out.mono ?_
        rintro e w6 ⟨v6, rfl, ho6, b6⟩
        have HB6 : Hid (Below bm wk w6) := Lib.hid (by rw [← HBM.out]; exact below_next HBK.out b6)
        have HW6 : Hid (WhA bm w6 (accOf os q)) := Lib.hid (HWR.out.below b6)
        have ho6b := ho6.less (show bm ≤ wr.heap.size by rw [← HBM.out]; exact HBK.out.size)
        obtain ⟨a8, c8, rfl, hr8, _, _⟩ := ho6.reads
        obtain ⟨ALL, hALL⟩ : ∃ A, allL o.ids = A := ⟨_, rfl⟩
        obtain ⟨m, hm⟩ : ∃ m, ALL.length = m := ⟨_, rfl⟩
        have hm8 : m ≤ 8 := by
          rw [← hm, ← hALL, allL_length]
          refine Nat.le_trans (placesL_length _ _ _) ?_
          rw [(HIA.out.each _ (idsOf_mem HO.out)).2.1]
          exact Nat.le_refl _
        have HALL := Lib.hid hALL
        have HML := Lib.hid hm
        rw [idV_length, hALL, hm] at ho6b ⊢
        have HOW := Lib.hid ho6b
        have HAM : Hid (∀ x ∈ ALL, x ∈ o.ids ∧ x ≠ -1) := Lib.hid (by rw [← hALL]; exact fun x h => all_mem h)
        have HW7 : Hid (WhA bm w6 (accOf os q ++ ALL.take 0)) := Lib.hid (by rw [List.take_zero, List.append_nil]; exact HW6.out)
        clear ho6 b6 hr8 hALL hm ho6b HAL HW6
        go_wp2_with fail
        go_loopw [180] (fun i wr => ∃ p : Nat, p ≤ m ∧ i = .int .i64 (p : Int) ∧ Hid (Below bm wk wr) ∧ Hid (WhA bm wr (accOf os q ++ ALL.take p)) ∧ Hid (OwnsV bm wr 3 (.slice a8 m c8) (idV ALL))) (fun i _ => m - (intOf i).toNat)
        case atStart => exact ⟨0, Nat.zero_le _, rfl, HB6, HW7, HOW⟩
        case round =>
          obtain ⟨p, hp, rfl, HBX, HWX, HOX⟩ := hrel
          clear HB6 HW7 HOW
          by_cases hlp : p < m
          · obtain ⟨xx, hxx⟩ : ∃ x, ALL[p]? = some x := ⟨_, List.getElem?_eq_getElem (by rw [HML.out]; exact hlp)⟩
            obtain ⟨hm1, hm2⟩ := HAM.out xx (List.mem_of_getElem? hxx)
            obtain ⟨i, f, rfl, hi, _, _, _⟩ := HIA.out.known (idsOf_mem HO.out) hm1 hm2
            obtain ⟨a9, c9, e9, hr9, _, _⟩ := HOX.out.reads
            injection e9 with e9 e10 e11
            subst e9
            obtain ⟨b8, o8, rfl, _, k8⟩ := hr9.at (idV_get hxx)
            have HTK : Hid (ALL.take (p + 1) = ALL.take p ++ [(i : Int)]) := Lib.hid (by rw [List.take_add_one, hxx]; rfl)
            have hlen : (accOf os q ++ ALL.take p).length ≤ 56 := by have := accOf_length HIA.out q; rw [List.length_append, List.length_take]; omega
            obtain ⟨acc, hacc⟩ : ∃ acc, accOf os q ++ ALL.take p = acc := ⟨_, rfl⟩
            rw [hacc] at HWX hlen
            obtain ⟨fv, hfv⟩ : ∃ f, FA acc (i : Int) = f := ⟨_, rfl⟩
            have hfb := FA_bound acc (i : Int)
            rw [hfv] at hfb
            have hf0 : 0 ≤ fv := hfb.1
            have hf1 : fv ≤ 56 := by omega
            have HFV := Lib.hid hfv
            have HACC := Lib.hid hacc
            have HLEN := Lib.hid hlen
            have HI20 := Lib.hid hi
            have HIX : Hid (I64 (i : Int)) := by show _ ∧ _; omega
            have hp0 : (0 : Int) ≤ (p : Int) := by omega
            have hp1 : (p : Int) < (m : Int) := by omega
            have hi0 : (0 : Int) ≤ (i : Int) := by omega
            have hi2 : (i : Int) < 20 := by omega
            have HLP := Lib.hid hlp
            clear hm1 hm2 hr9 e10 e11 hxx hlp hi hacc hfv hfb hlen
            go_wp2_with (first
              | (at_lookup; refine wpList_wh_look rfl _ _ rfl HWX.out rfl _ HIX.out rfl ?_; rw [HFV.out])
              | (at_mapUpdate; refine wpList_wh_put rfl _ _ _ rfl HWX.out rfl (by have := HLEN.out; unfold maxLen; omega) _ HIX.out rfl _ (by unfold I64; omega) rfl ?_; intro w8 h8 g8; have HW8 := Lib.hid (wh_moreA HI20.out HFV.out h8); have HB8 : Hid (Below bm wk w8) := Lib.hid (HBX.out.grown g8 (by rw [← HBM.out]; exact HBX.out.size) (fun j hj => by obtain rfl := Option.some.inj hj; exact Nat.le_refl _)); have HO8 := Lib.hid (HOX.out.keptM HWX.out g8); clear h8 g8)
              | fail)
            have HW9 : Hid (WhA bm w8 (accOf os q ++ ALL.take (p + 1))) := Lib.hid (by rw [HTK.out, ← List.append_assoc, HACC.out]; exact HW8.out)
            have h1 := HLP.out
            go_roundw
            case rel => exact ⟨p + 1, HLP.out, by go_num, HB8, HW9, HO8⟩
            case measure => simp [intOf]; omega
          · obtain rfl : p = m := by omega
            have hge : ¬ (p : Int) < (p : Int) := by omega
            have HW9 : Hid (WhA bm wr (accOf os (q + 1))) := Lib.hid (by
              have h1 := HWX.out
              rw [List.take_of_length_le (by rw [HML.out]; exact Nat.le_refl _), ← HALL.out, ← accOf_succ HO.out] at h1
              exact h1)
            clear hlp HWX HOX
            go_wp2_with fail
            have h1 := HLQ.out
            go_roundw
            case rel => exact ⟨q + 1, HLQ.out, by go_num, HBX, HW9⟩
            case measure => simp [intOf]; omega
      · obtain rfl : q = N := by omega
        have hge : ¬ (q : Int) < (q : Int) := by omega
        obtain ⟨ACC, hACC⟩ : ∃ A, (idsOf os).flatMap allL = A := ⟨_, rfl⟩
        have HCNT : Hid (countF fl = dist 20 ACC) := Lib.hid (by rw [← hACC]; exact HIA.out.count)
        have HCTD : Hid (∀ x, pA ACC x = true → ∃ (i : Nat) (o : FileD), x = (i : Int) ∧ i < 20 ∧ openAt fl x = some o ∧ o.refs = FA ACC x) := Lib.hid (by rw [← hACC]; exact fun x h => HIA.out.counted h)
        rw [accOf_all HN.out, hACC] at HWR
        obtain ⟨k, hk⟩ : ∃ k, ACC.length = k := ⟨_, rfl⟩
        obtain ⟨sz, hsz⟩ : ∃ k, dist 20 ACC = k := ⟨_, rfl⟩
        rw [hsz] at HCNT
        have HWS : Hid (IsWh bm wr bm k sz (pA ACC) (FA ACC)) := Lib.hid (by rw [← hk, ← hsz]; exact HWR.out)
        obtain ⟨D, hown, hreads⟩ := HWS.out.2
        have HD := Lib.hid hreads
        have HOWN := Lib.hid hown
        clear hlq hreads hown hACC hk hsz HWR HR7
        go_wp2_with (first | (at_range; refine wpList_range_own _ rfl _ 96 rfl 3 3 lawQ Try.underlying96 _ bm k D rfl HOWN.out ?_; intro w10 hrg0 hg0 hs0) | fail)
        obtain ⟨r, hr⟩ : ∃ r, wr.heap.size = r := ⟨_, rfl⟩
        generalize wr = ws at *
        have K10 : Hid (Below r ws w10) := Lib.hid ((Below.refl r ws).grown hg0 (Nat.le_of_eq hr.symm) (by intro j hj; cases hj))
        rw [hr] at hrg0 hs0 ⊢
        have HRS := Lib.hid hr
        clear hg0 HOWN hge hr hs0
        go_loopw [192] (fun _ wr => ∃ (left : Lit → Bool) (cnt : Nat), Hid (wr.ranges Try.prog 3 (plainElem Try.prog 3) bm r k D left cnt) ∧ Hid (∀ z, left z = true → Maps.has D z = true) ∧ Hid (Below r ws wr)) (fun _ wr => wr.rangeLeft bm r)
        case atStart => exact ⟨_, _, Lib.hid hrg0, Lib.hid (fun z h => h), K10⟩
        case round =>
          obtain ⟨left, cnt, HRG, HSUB, HBX⟩ := hrel
          clear hrg0 K10
          have HSX := Lib.hid (HSR.out.more (by rw [HRS.out]; exact HBX.out))
          have HWX : Hid (IsWh bm wr bm k sz (pA ACC) (FA ACC)) := Lib.hid (HWS.out.below (by rw [HRS.out]; exact HBX.out))
          go_wp2_with (first | (at_next; refine wpList_next_ranges_ii _ rfl _ rfl 3 3 .i64 .i64 lawQ Try.underlying3 Try.underlying3 bm r k _ _ _ rfl HRG.out ?_ ?_) | fail)
          · intro _ hl0
            have HCT := Lib.hid (fcount_is HSX.out.files)
            rw [HCNT.out] at HCT
            clear hl0 HRG HSUB HD HSR HWS HBX HRS HCNT HCTD
            go_wp2_with fail
            refine HCT.out.mono ?_
            rintro e w20 ⟨rfl, b20⟩
            have HW20 := Lib.hid (HWX.out.below b20)
            have HB20 := Lib.hid (below_next HSX.out.below b20)
            clear b20 HSX HWX
            go_wp2_with (at_len; refine wpList_wh_len rfl _ rfl HW20.out rfl ?_)
            go_ret
            exact ⟨by simp, HB20.out⟩
          · intro x c w11 cnt1 hwx hwc hlx hat hrg1 hlt hg1 hs1 hen
            have hI : I64 x := i64_of_wf hwx
            obtain ⟨hh, hf⟩ := HD.out.2 x hI
            rw [HSUB.out _ hlx] at hh
            rw [hat] at hf
            injection hf with hf
            injection hf with _ hf
            obtain ⟨i, o, rfl, hi, hopen, hrf⟩ := HCTD.out x hh.symm
            obtain rfl : c = o.refs := hf.trans hrf.symm
            have B11 : Hid (Below r ws w11) := Lib.hid (HBX.out.grown hg1 (Nat.le_trans (by rw [HRS.out]; exact Nat.le_refl _) HBX.out.size) (by intro j hj; obtain rfl := Option.some.inj hj; exact Nat.le_refl _))
            have S11 := Lib.hid (HSR.out.more (by rw [HRS.out]; exact B11.out))
            have HG := Lib.hid (fget_is S11.out.files (i : Int))
            rw [getF_yes hopen] at HG
            dsimp only at HG
            unfold fileA at HG
            have HR1 := Lib.hid hrg1
            have HLT := Lib.hid hlt
            have hi0 : (0 : Int) ≤ (i : Int) := by omega
            have hi2 : (i : Int) < 20 := by omega
            clear hwx hwc hlx hat hrg1 hlt hg1 hs1 hI hh hf hi hopen hrf HSX HWX
            go_wp2_with fail
            refine HG.out.mono ?_
            rintro e w12 ⟨rfl, b12⟩
            have hr11 : r ≤ w11.heap.size := by have := B11.out.size; have := HRS.out; omega
            have B12 := Lib.hid (B11.out.trans (b12.mono hr11))
            have R12 := Lib.hid (HR1.out.kept (belowQ_grown b12) (by simp) (by simp))
            have hr12 : r ≤ w12.heap.size := by have := b12.size; omega
            clear b12 hr11 HR1 B11 S11 HG
            have n13 := heap_alloc_new w12 (.cells #[.int .i64 o.kind, .int .i64 o.num, .int .i64 o.at_, .int .i64 o.flags, .int .i64 o.refs] 74)
            have B13 := Lib.hid (B12.out.alloc hr12 (.cells #[.int .i64 o.kind, .int .i64 o.num, .int .i64 o.at_, .int .i64 o.flags, .int .i64 o.refs] 74))
            have R13 := Lib.hid (R12.out.alloc (.cells #[.int .i64 o.kind, .int .i64 o.num, .int .i64 o.at_, .int .i64 o.flags, .int .i64 o.refs] 74))
            obtain ⟨gx, hgx⟩ : ∃ x, w12.heap.size = x := ⟨_, rfl⟩
            obtain ⟨w13, hw13⟩ : ∃ x, w12.alloc (.cells #[.int .i64 o.kind, .int .i64 o.num, .int .i64 o.at_, .int .i64 o.flags, .int .i64 o.refs] 74) = x := ⟨_, rfl⟩
            rw [hw13, hgx] at n13
            rw [hw13] at B13 R13
            have x4 := cell_of_row n13 4
            clear n13 B12 R12 hr12
            go_wp2_with fail
            refine ⟨⟨_, cnt1, R13, Lib.hid fun z hz => HSUB.out z ?_, B13⟩, ?_⟩
            · rw [Bool.and_eq_true] at hz; exact hz.1
            · rw [R13.out.left_eq, HRG.out.left_eq]; exact HLT.out
end Go.Proofs.Ytbpklbicbeckdaa
