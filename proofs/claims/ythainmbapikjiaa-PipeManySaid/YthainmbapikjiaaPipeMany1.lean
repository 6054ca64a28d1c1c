/- PipeMany's walk. -/
import Derived.Test.YthainmbapikjiaaPipeMany0
import Derived.Deep.RegionHeld
import Derived.Deep.RegionHeld3
import Derived.OrdersHeld
import Derived.Lib.QuietBelow
import Derived.BigQuiet
namespace Go.Proofs.Ythainmbapikjiaa
open Go.RowKit Go.Sort
set_option linter.unusedVariables false
set_option linter.unusedSimpArgs false
set_option maxRecDepth 100000

set_option maxHeartbeats 4000000 in
theorem pipeMany_walk (a : Option Addr) (cap : Nat) (l : List Act21D) (w : World) (hr : ReadsR w a 5 (rowsOf act21V l)) (hfit : ∀ u ∈ l, Act21Fits w u) (hcap : l.length ≤ cap) :
    Calls Try.prog 5 #[.slice a l.length cap] w fun e w' => e = .returned (.bool true) ∧ Below w.heap.size w w' := by
  obtain ⟨L, hL⟩ : ∃ L, l.length = L := ⟨_, rfl⟩
  have HLN := Lib.hid hL
  rw [hL] at hcap ⊢
  have HR := Lib.hid hr
  have HF := Lib.hid hfit
  clear hr hfit hL
  go_enter Try.func5, Try.ntmps5
  go_wp2_with fail
  refine (awake21_true w).mono ?_
  rintro e w1 ⟨rfl, b1⟩
  have B1 := Lib.hid b1
  clear b1
  go_wp2_with fail
  refine (pnew_is 3 (by decide) (by decide) w1).mono ?_
  rintro e w2 ⟨g, gs, rfl, hp2, b2⟩
  have HP2 : Hid (IsPipes w1.heap.size w2 g gs (mk3 0)) := Lib.hid hp2
  have HGS : Hid (w1.heap.size ≤ gs) := Lib.hid (pipes_lt hp2).2.2
  have HB2 := Lib.hid (below_next B1.out b2)
  have HW1 := Lib.hid B1.out.size
  have HG4 : Hid (w1.heap.size ≤ w2.heap.size) := Lib.hid b2.size
  clear hp2 b2
  obtain ⟨g4, hg4⟩ : ∃ x, w2.heap.size = x := ⟨_, rfl⟩
  rw [hg4] at HG4
  have q1 := below_box w2 (.cells #[.slice none 0 0, .slice none 0 0, .slice none 0 0] 59)
  have n1 := heap_alloc_new w2 (.cells #[.slice none 0 0, .slice none 0 0, .slice none 0 0] 59)
  have q2 := below_box (w2.alloc (.cells #[.slice none 0 0, .slice none 0 0, .slice none 0 0] 59)) (.cells #[.slice none 0 0, .slice none 0 0, .slice none 0 0] 59)
  have n2 := heap_alloc_new (w2.alloc (.cells #[.slice none 0 0, .slice none 0 0, .slice none 0 0] 59)) (.cells #[.slice none 0 0, .slice none 0 0, .slice none 0 0] 59)
  have n1b := (q2.block w2.heap.size (by simp)).trans n1
  have e5 : (w2.alloc (.cells #[.slice none 0 0, .slice none 0 0, .slice none 0 0] 59)).heap.size = w2.heap.size + 1 := by simp
  rw [e5] at n2
  have q3 := below_next q1 q2
  obtain ⟨w3, hw3⟩ : ∃ x, (w2.alloc (.cells #[.slice none 0 0, .slice none 0 0, .slice none 0 0] 59)).alloc (.cells #[.slice none 0 0, .slice none 0 0, .slice none 0 0] 59) = x := ⟨_, rfl⟩
  rw [hw3] at n2 n1b q3
  rw [hg4] at n2 n1b
  have HP3 := Lib.hid (HP2.out.below q3)
  have HB3 := Lib.hid (below_next HB2.out q3)
  have HN4 := Lib.hid n1b
  have HN5 := Lib.hid n2
  clear q1 q2 q3 n1 n2 n1b e5 HP2 HB2
  go_upto_block 0 with fail
  clear hw3 hg4
  go_cut [22] (fun _ wc => Hid (IsPipes w1.heap.size wc g gs (mk3 3)) ∧ Hid (w3.grownBy wc (some gs)))
  case first =>
    go_wp2_with fail
    go_loopw [22] (fun i wr => ∃ k : Nat, i = .int .i64 (k : Int) ∧ k ≤ 3 ∧ Hid (IsPipes w1.heap.size wr g gs (mk3 k)) ∧ Hid (w3.grownBy wr (some gs))) (fun i _ => 10 - (intOf i).toNat)
    case atStart => exact ⟨0, rfl, by decide, HP3, Lib.hid (grown_same _ _)⟩
    case round =>
      obtain ⟨k, rfl, hk, HP, HG⟩ := hrel
      by_cases hlt : k < 3
      · have hlt' : (k : Int) < 3 := by omega
        have HLT := Lib.hid hlt
        clear hlt
        go_wp2_with fail
        refine (mk3_make HLT.out HP.out).mono ?_
        rintro e w5 ⟨rfl, hp5, hg5⟩
        have HP5 := Lib.hid hp5
        have HG5 := Lib.hid (grown_transP HG.out hg5)
        clear hp5 hg5
        go_wp2
        have h1 := HLT.out
        go_roundw
        case rel => exact ⟨k + 1, by go_num, by omega, HP5, HG5⟩
        case measure => simp [intOf]; omega
      · obtain rfl : k = 3 := by omega
        clear hlt
        go_wp2_with fail
        go_meet
        exact ⟨HP, HG⟩
  case rest =>
    obtain ⟨HP, HG⟩ := hcut
    generalize wc = wk at *
    have HT : Hid (Trio w1.heap.size wk g gs g4 (g4 + 1) (mk3 3) [(.slice none 0 0, []), (.slice none 0 0, []), (.slice none 0 0, [])] [(.slice none 0 0, []), (.slice none 0 0, []), (.slice none 0 0, [])]) := Lib.hid ⟨⟨HP.out, fun i v l e => by
        have : v = .slice none 0 0 ∧ l = [] := by
          match i, e with
          | 0, e => cases e; exact ⟨rfl, rfl⟩
          | 1, e => cases e; exact ⟨rfl, rfl⟩
          | 2, e => cases e; exact ⟨rfl, rfl⟩
          | 3, e => cases e; exact ⟨rfl, rfl⟩
          | 4, e => cases e; exact ⟨rfl, rfl⟩
          | 5, e => cases e; exact ⟨rfl, rfl⟩
        obtain ⟨rfl, rfl⟩ := this
        exact owns_nil _ _, fun i j v v' l l' _ e e' k hk => by
        have : v = .slice none 0 0 := by
          match i, e with
          | 0, e => cases e; rfl
          | 1, e => cases e; rfl
          | 2, e => cases e; rfl
          | 3, e => cases e; rfl
          | 4, e => cases e; rfl
          | 5, e => cases e; rfl
        subst this
        cases hk⟩, rfl, rfl, rfl,
      (HG.out.block g4 (Array.getElem?_eq_some_iff.1 HN4.out).1 (fun e => by obtain rfl := Option.some.inj e; exact HP3.out.2.1.apartP HN4.out (by decide) rfl)).trans HN4.out,
      (HG.out.block (g4 + 1) (Array.getElem?_eq_some_iff.1 HN5.out).1 (fun e => by have e := Option.some.inj e; exact HP3.out.2.1.apartP (by rw [← e]; exact HN5.out) (by decide) rfl)).trans HN5.out, by omega⟩
    have HE : Hid (Eqs (mk3 3) [(.slice none 0 0, []), (.slice none 0 0, []), (.slice none 0 0, [])] [(.slice none 0 0, []), (.slice none 0 0, []), (.slice none 0 0, [])] 0) := Lib.hid (fun K s v u l m e1 e2 e3 => by
      match K, e1, e2, e3 with
      | 0, e1, e2, e3 => cases e1; cases e2; cases e3; exact ⟨rfl, rfl, rfl, Nat.le_refl _⟩
      | 1, e1, e2, e3 => cases e1; cases e2; cases e3; exact ⟨rfl, rfl, rfl, Nat.le_refl _⟩
      | 2, e1, e2, e3 => cases e1; cases e2; cases e3; exact ⟨rfl, rfl, rfl, Nat.le_refl _⟩)
    have HB : Hid (Below w.heap.size w wk) := Lib.hid (HB3.out.grown HG.out HB3.out.size (fun i hi => by obtain rfl := Option.some.inj hi; have := HGS.out; have := HW1.out; omega))
    clear HP HG HP3 HB3 HN4 HN5
    go_upto_block 2 with fail
    go_cut [8] (fun _ wc => ∃ (fl : List PipeD) (ins outs : List (Value × List Nat)), Hid (Trio w1.heap.size wc g gs g4 (g4 + 1) fl ins outs) ∧ Hid (Eqs fl ins outs 8000) ∧ Hid (Below w.heap.size w wc))
    case first =>
      go_wp2_with fail
      go_loopw [8] (fun i wr => ∃ (j : Nat) (fl : List PipeD) (ins outs : List (Value × List Nat)), i = .int .i64 (j : Int) ∧ j ≤ 80 ∧ j ≤ L ∧ Hid (Trio w1.heap.size wr g gs g4 (g4 + 1) fl ins outs) ∧ Hid (Eqs fl ins outs (100 * j)) ∧ Hid (Below w.heap.size w wr)) (fun i _ => 80 - (intOf i).toNat)
      case atStart => exact ⟨0, _, _, _, rfl, by decide, Nat.zero_le _, HT, HE, HB⟩
      case round =>
        obtain ⟨j, fl, ins, outs, rfl, hj80, hjL, HT, HE, HB⟩ := hrel
        by_cases hlt : j < L
        · by_cases h80 : j < 80
          · obtain ⟨⟨kd, num, n, m, sa, sn, sc, S⟩, hx⟩ : ∃ x, l[j]? = some x := ⟨_, List.getElem?_eq_getElem (by rw [HLN.out]; exact hlt)⟩
            obtain ⟨_, _, f3, _, f5, f6, f7⟩ := HF.out _ (List.mem_of_getElem? hx)
            dsimp only at f3 f5 f6 f7
            obtain ⟨b, off, rfl, hb, hc⟩ := (HR.out.below HB.out).row (rowsOf_get hx)
            have c0 : wr.cell? ⟨b, off + j * 5, none⟩ = some (.int .i64 kd) := hc 0 _ rfl
            have c1 : wr.cell? ⟨b, off + j * 5 + 1, none⟩ = some (.int .i64 num) := by have := hc 1 _ rfl; rwa [← Nat.add_assoc] at this
            have c2 : wr.cell? ⟨b, off + j * 5 + 2, none⟩ = some (.int .i64 n) := by have := hc 2 _ rfl; rwa [← Nat.add_assoc] at this
            have c3 : wr.cell? ⟨b, off + j * 5 + 3, none⟩ = some (.int .i64 m) := by have := hc 3 _ rfl; rwa [← Nat.add_assoc] at this
            have c4 : wr.cell? ⟨b, off + j * 5 + 4, none⟩ = some (.slice sa sn sc) := by have := hc 4 _ rfl; rwa [← Nat.add_assoc] at this
            have hx1 : (0 : Int) ≤ (j : Int) := by omega
            have hx2 : (j : Int) < (L : Int) := by omega
            have hx3 : (j : Int) < 80 := by omega
            have HLT := Lib.hid (And.intro hlt h80)
            have kb := below_box wr (.cells #[.int .i64 kd, .int .i64 num, .int .i64 n, .int .i64 m, .slice sa sn sc] 51)
            have nb := heap_alloc_new wr (.cells #[.int .i64 kd, .int .i64 num, .int .i64 n, .int .i64 m, .slice sa sn sc] 51)
            obtain ⟨wb, hwb⟩ : ∃ W, wr.alloc (.cells #[.int .i64 kd, .int .i64 num, .int .i64 n, .int .i64 m, .slice sa sn sc] 51) = W := ⟨_, rfl⟩
            rw [hwb] at kb nb
            obtain ⟨gb, hgb⟩ : ∃ x, wr.heap.size = x := ⟨_, rfl⟩
            rw [hgb] at nb
            have HNB := Lib.hid nb
            have HTB := Lib.hid (HT.out.below kb)
            have HBB : Hid (Below w.heap.size w wb) := Lib.hid (below_next HB.out kb)
            have HSB : Hid (S ≠ [] → ∀ x, sa = some x → x.block < w.heap.size) := Lib.hid (fun hne x hx => by
              rcases f5.2.2 with h0 | ⟨b9, o9, he, hb9, _⟩
              · exact absurd h0 hne
              · rw [hx] at he
                cases he
                exact hb9)
            have HS := Lib.hid (f5.below HBB.out)
            have HSC := Lib.hid f6
            have HN3 := Lib.hid f3
            obtain ⟨K, hK, hK3⟩ : ∃ K : Nat, (Int.tmod num 3 + 3) % 3 = (K : Int) ∧ K < 3 := ⟨((Int.tmod num 3 + 3) % 3).toNat, by omega, by omega⟩
            have htm : -3 < Int.tmod num 3 ∧ Int.tmod num 3 < 3 := ⟨by have := Int.lt_tmod_of_pos num (show (0:Int) < 3 by decide); omega, Int.tmod_lt_of_pos num (by decide)⟩
            have hwr : IntKind.i64.wrap (Int.tmod num 3 + 3) = Int.tmod num 3 + 3 := IntWalk.i64_in _ (by omega)
            have hK2 : Int.tmod (Int.tmod num 3 + 3) 3 = (K : Int) := by rw [Int.tmod_eq_emod_of_nonneg (by omega)]; exact hK
            have hk1 : IntKind.i64.wrap ((K : Int) + 1) = (K : Int) + 1 := IntWalk.i64_in _ (by omega)
            have hk0 : (0 : Int) ≤ (K : Int) := by omega
            have hk3 : (K : Int) < 3 := by omega
            obtain ⟨s, hs⟩ : ∃ x, fl[K]? = some x := ⟨_, List.getElem?_eq_getElem (by rw [HT.out.lf]; exact hK3)⟩
            obtain ⟨⟨vi, li⟩, hi⟩ : ∃ x, ins[K]? = some x := ⟨_, List.getElem?_eq_getElem (by rw [HT.out.li]; exact hK3)⟩
            obtain ⟨⟨vo, lo⟩, ho⟩ : ∃ x, outs[K]? = some x := ⟨_, List.getElem?_eq_getElem (by rw [HT.out.lo]; exact hK3)⟩
            have HKK := Lib.hid (And.intro hs (And.intro hi ho))
            have HQ := Lib.hid (HE.out K s vi vo li lo hs hi ho)
            have d0 := cell_atP nb 0
            have d1 := cell_atP nb 1
            have d2 := cell_atP nb 2
            have d4 := cell_atP nb 4
            clear hc hx hb kb nb hlt h80 HB f3 f5 f6 f7 hs hi ho hK
            go_upto_if 55 with fail
            clear c0 c1 c2 c3 c4 hwb hgb hK2 hwr htm
            go_cut [11] (fun v wc => ∃ (a1 : Option Addr) (n1 : Nat) (S1 : List Nat), v = .slice a1 n1 sc ∧ n1 ≤ 100 ∧ n1 ≤ sc ∧ Hid (wc = wb) ∧ Hid (Reads wb a1 n1 S1) ∧ Hid (S1 ≠ [] → ∀ x, a1 = some x → x.block < w.heap.size))
            case first =>
              by_cases h100 : 100 < sn
              · have h100' : (100 : Int) < (sn : Int) := by omega
                obtain ⟨a', hsl, hr', hne'⟩ := cut_is HS.out HSC.out 100 (by omega)
                have hsl' : ∀ W, (Instr.sliceAt 33 (.slice sa sn sc) none (some (.int .i64 100)) none).run Try.prog W = .ok (.slice a' 100 sc) W := hsl
                have HR9 := Lib.hid hr'
                have HS9 : Hid (S.take 100 ≠ [] → ∀ x, a' = some x → x.block < w.heap.size) := Lib.hid (fun h1 x hx => HSB.out (fun e => h1 (by rw [e]; rfl)) x (by rw [← hne' h1]; exact hx))
                have h9 : 100 ≤ sc := by have := HSC.out; omega
                clear hsl hr' hne' h100
                go_wp2_with fail
                go_meet
                exact ⟨a', 100, S.take 100, rfl, Nat.le_refl _, h9, Lib.hid rfl, HR9, HS9⟩
              · have h100' : ¬ (100 : Int) < (sn : Int) := by omega
                go_wp2_with fail
                go_meet
                exact ⟨sa, sn, S, rfl, by omega, HSC.out, Lib.hid rfl, HS, HSB⟩
            case rest =>
              obtain ⟨a1, n1, S1, rfl, hn100, hnsc, hwc, HS1, HSB1⟩ := hcut
              obtain rfl := hwc.out
              clear hwc HS HSB HSC
              have hs1 := HS1.out.1
              have hs64 : s.count ≤ 64 := (pipes_lts HTB.out.mm.pp HKK.out.1).2.2.1
              have hvi := (HTB.out.mm.own K vi li (by rw [List.getElem?_append_left (by rw [HTB.out.li]; exact hK3)]; exact HKK.out.2.1)).shape
              have hvo := (HTB.out.mm.own (3 + K) vo lo (by rw [List.getElem?_append_right (by rw [HTB.out.li]; omega), HTB.out.li, show 3 + K - 3 = K by omega]; exact HKK.out.2.2)).shape
              obtain ⟨ia, ic, rfl⟩ := hvi
              obtain ⟨oa, oc, rfl⟩ := hvo
              obtain ⟨iN, hiN⟩ : ∃ x, li.length = x := ⟨_, rfl⟩
              obtain ⟨oN, hoN⟩ : ∃ x, lo.length = x := ⟨_, rfl⟩
              rw [hiN, hoN] at HKK
              rw [hiN] at HQ
              have HIO := Lib.hid (And.intro hiN hoN)
              have hbn : iN ≤ 8000 ∧ oN ≤ iN := by
                obtain ⟨q1, q2, q3, q4⟩ := HQ.out
                have h1 := congrArg List.length q1
                rw [List.length_append] at h1
                omega
              have HBN := Lib.hid hbn
              clear hiN hoN hbn
              by_cases hbit : bits .and .i64 kd 1 = 0
              · obtain ⟨k, er, hKE, hkn, _⟩ := wrK_facts HQ.out.2.1 hs64 S1.length
                have HWR := Lib.hid (pwrite_is HTB.out.mm.pp ((K : Int) + 1) K rfl s HKK.out.1 (there_one HQ.out.2.1) a1 n1 sc S1 HS1.out (by omega) hnsc (fun h1 x hx => by have := HSB1.out h1 x hx; have := HW1.out; have := HGS.out; omega))
                unfold WritePost at HWR
                rw [hKE] at HWR
                rw [hs1] at hkn
                have hkn' : (k : Int) ≤ (n1 : Int) := by omega
                obtain ⟨a2, hsl, hr2, hne2⟩ := cut_is HS1.out hnsc k hkn
                have HSL := Lib.hid hsl
                have HR2 := Lib.hid hr2
                have HS2 : Hid (S1.take k ≠ [] → ∀ x, a2 = some x → x.block ≠ gs) := Lib.hid (fun h1 x hx => by
                  have h2 := HSB1.out (fun e => h1 (by rw [e, List.take_nil])) x (by rw [← hne2 h1]; exact hx)
                  have := HW1.out
                  have := HGS.out
                  omega)
                have hbnd : k ≤ 100 := by omega
                clear hsl hr2 hne2 hKE hs64 hs1 d1 d2 d4
                go_wp2_with fail
                refine HWR.out.mono ?_
                rintro e w5 ⟨s', rfl, hp5, hg5, hc5, hr5, hw5⟩
                have HT5 := Lib.hid (HTB.out.pipes hg5 hp5 (by rw [List.length_set]))
                have HR5 := Lib.hid (HR2.out.grownP hg5 HS2.out)
                have HB5 : Hid (Below w.heap.size w w5) := Lib.hid (HBB.out.grown hg5 HBB.out.size (fun i hi => by obtain rfl := Option.some.inj hi; have := HGS.out; have := HW1.out; omega))
                have HE5 : Hid (li ++ S1.take k = lo ++ content s' ∧ s'.readers = 1 ∧ s'.writers = 1) := Lib.hid ⟨by rw [hc5, HQ.out.1, List.append_assoc], hr5.trans HQ.out.2.1, hw5.trans HQ.out.2.2.1⟩
                have HSZ5 : Hid (w1.heap.size ≤ w5.heap.size) := Lib.hid (by have := (pipes_lt hp5).2.1; have := HGS.out; omega)
                clear hp5 hg5 hc5 hr5 hw5 HR2 HS2 HBB HWR d0
                go_wp2_with fail
                have x4 : w5.cell? ⟨g4, K, none⟩ = some (.slice ia iN ic) := (cell_atP HT5.out.b4 K).trans (by rw [List.getElem?_toArray, List.getElem?_map, HKK.out.2.1]; rfl)
                refine wp_region_held_drew (S := fun W => True) (by kernel_rfl) trivial (fun hHeld => ?_)
                have x4 : w5.drew.cell? ⟨g4, K, none⟩ = some (.slice ia iN ic) := x4
                have HT6 := Lib.hid (HT5.out.below (below_drew w5))
                have HB6 := Lib.hid (below_next HB5.out (below_drew w5))
                have HR6 := Lib.hid (HR5.out.below (below_drew w5))
                have HSZ6 : Hid (w1.heap.size ≤ w5.drew.heap.size) := HSZ5
                generalize w5.drew = w6 at *
                clear HT5 HB5 HR5 HSZ5
                refine wpAnyH_take (i := 0) (v := .int .i64 (K : Int)) rfl (by kernel_rfl) (by kernel_rfl) (by kernel_rfl) (fun _ _ _ h => h) (Or.inl ⟨by rfl, by intro W hSw; clear hSw; go_simp⟩) (by assumption) ?_
                try simp only [List.getElem_toArray, List.getElem_cons_zero, List.getElem_cons_succ, Act.put, List.setIfInBounds_toArray, List.set_cons_zero, List.set_cons_succ]
                refine wpAnyH_take (i := 1) (v := .int .i64 (K : Int)) rfl (by kernel_rfl) (by kernel_rfl) (by kernel_rfl) (fun _ _ _ h => h) (Or.inl ⟨by rfl, by intro W hSw; clear hSw; go_simp⟩) (by assumption) ?_
                try simp only [List.getElem_toArray, List.getElem_cons_zero, List.getElem_cons_succ, Act.put, List.setIfInBounds_toArray, List.set_cons_zero, List.set_cons_succ]
                refine wpAnyH_take (i := 2) (v := .pointer (some ⟨g4, K, none⟩)) rfl (by kernel_rfl) (by kernel_rfl) (by kernel_rfl) (fun _ _ _ h => h) (Or.inl ⟨by rfl, by intro W hSw; clear hSw; go_simp⟩) (by assumption) ?_
                try simp only [List.getElem_toArray, List.getElem_cons_zero, List.getElem_cons_succ, Act.put, List.setIfInBounds_toArray, List.set_cons_zero, List.set_cons_succ]
                refine wpAnyH_take (i := 4) (v := .slice a1 n1 sc) rfl (by kernel_rfl) (by kernel_rfl) (by kernel_rfl) (fun _ _ _ h => h) (Or.inl ⟨by rfl, by intro W hSw; clear hSw; go_simp⟩) (by assumption) ?_
                try simp only [List.getElem_toArray, List.getElem_cons_zero, List.getElem_cons_succ, Act.put, List.setIfInBounds_toArray, List.set_cons_zero, List.set_cons_succ]
                refine wpAnyH_take (i := 5) (v := .int .i64 (k : Int)) rfl (by kernel_rfl) (by kernel_rfl) (by kernel_rfl) (fun _ _ _ h => h) (Or.inl ⟨by rfl, by intro W hSw; clear hSw; go_simp⟩) (by assumption) ?_
                try simp only [List.getElem_toArray, List.getElem_cons_zero, List.getElem_cons_succ, Act.put, List.setIfInBounds_toArray, List.set_cons_zero, List.set_cons_succ]
                have hsl := HSL.out
                refine wpAnyH_take (i := 6) (v := .slice a2 k sc) rfl (by kernel_rfl) (by kernel_rfl) (by kernel_rfl) (fun _ _ _ h => h) (Or.inl ⟨by rfl, by intro W hSw; clear hSw; go_simp⟩) (by assumption) ?_
                try simp only [List.getElem_toArray, List.getElem_cons_zero, List.getElem_cons_succ, Act.put, List.setIfInBounds_toArray, List.set_cons_zero, List.set_cons_succ]
                clear hsl
                refine wpAnyH_ready (rs := [3]) (by kernel_rfl) (by simp) ?_
                refine AllReadyH.cons rfl (fun KK hKK => ?_) AllReadyH.nil
                go_simp
                refine hKK.out _ _ trivial (fun hH6 => ?_)
                clear hKK KK x4
                try simp only [List.getElem_toArray, List.getElem_cons_zero, List.getElem_cons_succ, Act.put, List.setIfInBounds_toArray, List.set_cons_zero, List.set_cons_succ]
                refine wpAnyH_ready (rs := [7]) (by kernel_rfl) (by simp) ?_
                refine AllReadyH.cons rfl (fun KK hKK => ?_) AllReadyH.nil
                have hiN9 : li.length + k ≤ 140737488355328 := by rw [HIO.out.1]; have := HBN.out.1; omega
                have HOWN := Lib.hid (HT6.out.mm.own K (.slice ia iN ic) li (by rw [List.getElem?_append_left (by rw [HT6.out.li]; exact hK3)]; exact HKK.out.2.1))
                refine step_append_at (by rfl) (.tmp 73) (.tmp 76) (by rfl) w1.heap.size (.slice ia iN ic) li (by rfl) HOWN.out a2 k sc (by rfl) (S1.take k) HR6.out hiN9 HSZ6.out ?_
                intro v' w7 ho hg hl
                obtain ⟨ia2, ic2, rfl⟩ := ho.shape
                obtain ⟨n47, HT8, g47⟩ := HT6.out.pushIn HKK.out.2.1 ho hg hl
                have HB7 : Hid (Below w.heap.size w w7) := Lib.hid (HB6.out.grown hg HB6.out.size (fun i hi => by have := (HOWN.out).2.lt i hi; have := HW1.out; omega))
                obtain ⟨iM, hiM⟩ : ∃ x, (li ++ S1.take k).length = x := ⟨_, rfl⟩
                rw [hiM] at HT8 g47 ⊢
                have x7 : w7.cell? ⟨g4, K, none⟩ = some (.slice ia iN ic) := (cell_atP n47 K).trans (by rw [List.getElem?_toArray, List.getElem?_map, HKK.out.2.1]; rfl)
                have f7 := frozen_atP n47 K
                refine hKK.out _ _ trivial (fun hH7 => ?_)
                clear hKK KK ho hg hl n47 hiN9 HOWN
                try simp only [List.getElem_toArray, List.getElem_cons_zero, List.getElem_cons_succ, Act.put, List.setIfInBounds_toArray, List.set_cons_zero, List.set_cons_succ]
                refine wpAnyH_take (i := 8) (v := .pointer (some ⟨g4, K, none⟩)) rfl (by kernel_rfl) (by kernel_rfl) (by kernel_rfl) (fun _ _ _ h => h) (Or.inl ⟨by rfl, by intro W hSw; clear hSw; go_simp⟩) (by assumption) ?_
                try simp only [List.getElem_toArray, List.getElem_cons_zero, List.getElem_cons_succ, Act.put, List.setIfInBounds_toArray, List.set_cons_zero, List.set_cons_succ]
                obtain ⟨w8, hw8⟩ : ∃ x, w7.setCell ⟨g4, K, none⟩ (.slice ia2 iM ic2) = x := ⟨_, rfl⟩
                rw [hw8] at HT8 g47
                have HTN := Lib.hid HT8
                have HG47 := Lib.hid g47
                refine wpAnyH_ready (rs := [9]) (by kernel_rfl) (by simp) ?_
                refine AllReadyH.cons rfl (fun KK hKK => ?_) AllReadyH.nil
                go_simp
                refine hKK.out _ _ trivial (fun hH8 => ?_)
                clear hKK KK hw8 x7 f7
                try simp only [List.getElem_toArray, List.getElem_cons_zero, List.getElem_cons_succ, Act.put, List.setIfInBounds_toArray, List.set_cons_zero, List.set_cons_succ]
                refine wpAnyH_done (by kernel_rfl) ?_ _
                clear hH8 hH7 hH6 hHeld
                have HB8 : Hid (Below w.heap.size w w8) := Lib.hid (HB7.out.grown HG47.out HB7.out.size (fun i hi => by obtain rfl := Option.some.inj hi; have := HG4.out; have := HW1.out; omega))
                have HE8 : Hid (Eqs (fl.set K s') (ins.set K (.slice ia2 iM ic2, li ++ S1.take k)) outs (100 * (j + 1))) := Lib.hid (HE.out.setIn HKK.out.1 HKK.out.2.1 HKK.out.2.2 HE5.out.1 HE5.out.2.1 HE5.out.2.2 (by rw [List.length_append, List.length_take]; have := HQ.out.2.2.2; have := HIO.out.1; omega) (by omega))
                go_wp2
                have h1 := HLT.out.1
                have h2 := HLT.out.2
                go_roundw
                case rel => exact ⟨j + 1, _, _, _, by go_num, h2, h1, HTN, HE8, HB8⟩
                case measure => simp [intOf]; omega
              · have hm0 : (0 : Int) ≤ max 0 n := by omega
                obtain ⟨mx, hmx⟩ : ∃ x, max 0 n = x := ⟨_, rfl⟩
                rw [hmx] at hm0
                obtain ⟨k, er, hKE, hkm, hks, _⟩ := rdK_facts s hm0
                have HRD := Lib.hid (pread_is HTB.out.mm.pp ((K : Int) + 1) K rfl s HKK.out.1 (there_one HQ.out.2.1) mx hm0)
                unfold ReadPost at HRD
                rw [hKE] at HRD
                have HLK : Hid (((content s).take k).length = k) := Lib.hid (by rw [List.length_take, content_length]; omega)
                have hkb : k ≤ 64 := by omega
                clear hKE hkm hks hs64 hs1 d1 d4
                go_wp2_with fail
                try rw [hmx]
                refine HRD.out.mono ?_
                rintro e w5 ⟨s', vg, rfl, ho5, hp5, hg5, hc5, hr5, hw5⟩
                obtain ⟨ga, gcap, rfl, hrg, _, _⟩ := ho5.reads
                have HT5 := Lib.hid (HTB.out.pipes hg5 hp5 (by rw [List.length_set]))
                have HB5 : Hid (Below w.heap.size w w5) := Lib.hid (HBB.out.grown hg5 HBB.out.size (fun i hi => by obtain rfl := Option.some.inj hi; have := HGS.out; have := HW1.out; omega))
                have HE5 : Hid (li = (lo ++ (content s).take k) ++ content s' ∧ s'.readers = 1 ∧ s'.writers = 1) := Lib.hid ⟨by rw [hc5, HQ.out.1, List.append_assoc, List.take_append_drop], hr5.trans HQ.out.2.1, hw5.trans HQ.out.2.2.1⟩
                have HSZ5 : Hid (w1.heap.size ≤ w5.heap.size) := Lib.hid (by have := (pipes_lt hp5).2.1; have := HGS.out; omega)
                rw [HLK.out] at hrg ⊢
                have HRG := Lib.hid hrg
                have HOWN := Lib.hid (HT5.out.mm.own (3 + K) (.slice oa oN oc) lo (by rw [List.getElem?_append_right (by rw [HT5.out.li]; omega), HT5.out.li, show 3 + K - 3 = K by omega]; exact HKK.out.2.2))
                have HLB : Hid (lo.length + k ≤ 140737488355328) := Lib.hid (by rw [HIO.out.2]; have := HBN.out; omega)
                have x5 : w5.cell? ⟨g4 + 1, K, none⟩ = some (.slice oa oN oc) := (cell_atP HT5.out.b5 K).trans (by rw [List.getElem?_toArray, List.getElem?_map, HKK.out.2.2]; rfl)
                clear ho5 hp5 hg5 hc5 hr5 hw5 hrg d0 d2 HTB HBB HRD
                go_upto_region 23 with fail
                go_wp2_with (at_builtin; refine append_bytes_at (by rfl) (.tmp 92) (.tmp 93) (by rfl) w1.heap.size (.slice oa oN oc) lo (by rfl) HOWN.out ga k gcap (by rfl) ((content s).take k) HRG.out HLB.out HSZ5.out ?_; intro v' w7 ho hg hl; clear x5; obtain ⟨oa2, oc2, rfl⟩ := ho.shape; obtain ⟨n57, HT8, g57⟩ := HT5.out.pushOut HKK.out.2.2 ho hg hl; (have HB7 : Hid (Below w.heap.size w w7) := Lib.hid (HB5.out.grown hg HB5.out.size (fun i hi => by have := (HOWN.out).2.lt i hi; have := HW1.out; omega))); obtain ⟨oM, hoM⟩ : ∃ x, (lo ++ (content s).take k).length = x := ⟨_, rfl⟩; rw [hoM] at HT8 g57 ⊢; have x7 : w7.cell? ⟨g4 + 1, K, none⟩ = some (.slice oa oN oc) := (cell_atP n57 K).trans (by rw [List.getElem?_toArray, List.getElem?_map, HKK.out.2.2]; rfl); have f7 := frozen_atP n57 K; obtain ⟨w8, hw8⟩ : ∃ x, w7.setCell ⟨g4 + 1, K, none⟩ (.slice oa2 oM oc2) = x := ⟨_, rfl⟩; rw [hw8] at HT8 g57; (have HTN := Lib.hid HT8); (have HB8 : Hid (Below w.heap.size w w8) := Lib.hid (HB7.out.grown g57 HB7.out.size (fun i hi => by obtain rfl := Option.some.inj hi; have := HG4.out; have := HW1.out; omega))); (have HE8 : Hid (Eqs (fl.set K s') ins (outs.set K (.slice oa2 oM oc2, lo ++ (content s).take k)) (100 * (j + 1))) := Lib.hid (HE.out.setOut HKK.out.1 HKK.out.2.1 HKK.out.2.2 HE5.out.1 HE5.out.2.1 HE5.out.2.2 (by omega))); clear ho hg hl n57 HT8 g57)
                have h1 := HLT.out.1
                have h2 := HLT.out.2
                go_roundw
                case rel => exact ⟨j + 1, _, _, _, by go_num, h2, h1, HTN, HE8, HB8⟩
                case measure => simp [intOf]; omega
          · have hx2 : (j : Int) < (L : Int) := by omega
            have hx3 : ¬ (j : Int) < 80 := by omega
            have hE9 : Hid (Eqs fl ins outs 8000) := Lib.hid (fun K s v u l m e1 e2 e3 => by obtain ⟨q1, q2, q3, q4⟩ := HE.out K s v u l m e1 e2 e3; exact ⟨q1, q2, q3, by omega⟩)
            go_wp2_with fail
            go_meet
            exact ⟨fl, ins, outs, HT, hE9, HB⟩
        · have hx2 : ¬ (j : Int) < (L : Int) := by omega
          have hE9 : Hid (Eqs fl ins outs 8000) := Lib.hid (fun K s v u l m e1 e2 e3 => by obtain ⟨q1, q2, q3, q4⟩ := HE.out K s v u l m e1 e2 e3; exact ⟨q1, q2, q3, by omega⟩)
          go_wp2_with fail
          go_meet
          exact ⟨fl, ins, outs, HT, hE9, HB⟩
    case rest =>
      clear HT HE HB
      obtain ⟨fl, ins, outs, HT, HE, HB⟩ := hcut
      generalize wc = wm at *
      go_wp2_with fail
      go_loopw [16, 96] (fun _ i wr => ∃ k : Nat, i = .int .i64 (k : Int) ∧ k ≤ 3 ∧ Hid (Below wm.heap.size wm wr)) (fun _ i _ => 10 - (intOf i).toNat)
      case atStart => exact ⟨0, rfl, by decide, Lib.hid (Below.refl _ _)⟩
      case round =>
        obtain ⟨k, rfl, hk, HBR⟩ := hrel
        by_cases hlt : k < 3
        · obtain ⟨s, hs⟩ : ∃ x, fl[k]? = some x := ⟨_, List.getElem?_eq_getElem (by rw [HT.out.lf]; exact hlt)⟩
          obtain ⟨⟨vi, li⟩, hi⟩ : ∃ x, ins[k]? = some x := ⟨_, List.getElem?_eq_getElem (by rw [HT.out.li]; exact hlt)⟩
          obtain ⟨⟨vo, lo⟩, ho⟩ : ∃ x, outs[k]? = some x := ⟨_, List.getElem?_eq_getElem (by rw [HT.out.lo]; exact hlt)⟩
          obtain ⟨q1, q2, q3, q4⟩ := HE.out k s vi vo li lo hs hi ho
          have HTR := Lib.hid (HT.out.below HBR.out)
          have HLE := Lib.hid (plen_is HTR.out.mm.pp ((k : Int) + 1) k rfl s hs (there_one q2))
          have hvi := HTR.out.mm.own k vi li (by rw [List.getElem?_append_left (by rw [HTR.out.li]; exact hlt)]; exact hi)
          have hvo := HTR.out.mm.own (3 + k) vo lo (by rw [List.getElem?_append_right (by rw [HTR.out.li]; omega), HTR.out.li, show 3 + k - 3 = k by omega]; exact ho)
          obtain ⟨ia, ic, rfl, hri, hic, him⟩ := hvi.reads
          obtain ⟨oa, oc, rfl, hro, hoc, hom⟩ := hvo.reads
          obtain ⟨iN, hiN⟩ : ∃ x, li.length = x := ⟨_, rfl⟩
          obtain ⟨oN, hoN⟩ : ∃ x, lo.length = x := ⟨_, rfl⟩
          obtain ⟨cl, hcl⟩ : ∃ x, (content s).length = x := ⟨_, rfl⟩
          have hsum : iN = oN + cl := by have := congrArg List.length q1; rw [List.length_append, hiN, hoN, hcl] at this; exact this
          rw [hiN] at hri hi hic q4
          rw [hoN] at hro ho hoc
          rw [hcl] at HLE
          have hd : IntKind.i64.wrap ((iN : Int) - (oN : Int)) = (cl : Int) := by rw [IntWalk.i64_in _ (by omega)]; omega
          have hself : ((cl : Int) != (cl : Int)) = false := by simp
          have hk1 : IntKind.i64.wrap ((k : Int) + 1) = (k : Int) + 1 := IntWalk.i64_in _ (by omega)
          have hk0 : (0 : Int) ≤ (k : Int) := by omega
          have hk3 : (k : Int) < 3 := by omega
          obtain ⟨a2, hsl, hr2, _⟩ := cut_is hri hic oN (by omega)
          have htk : li.take oN = lo := by rw [q1, List.take_append_of_le_length (by omega), List.take_of_length_le (by omega)]
          rw [htk] at hr2
          have HSL := Lib.hid hsl
          have HEQ := Lib.hid (fun (W : World) (hW : Below wr.heap.size wr W) => equal_alike a2 oa oN ic oc lo lo W (hr2.below hW) (hro.below hW) (by unfold maxLen; omega))
          have hsb : sameB lo lo = true := by simp [sameB]
          rw [hsb] at HEQ
          have HX4 : Hid (wr.cell? ⟨g4, k, none⟩ = some (.slice ia iN ic)) := Lib.hid ((cell_atP HTR.out.b4 k).trans (by rw [List.getElem?_toArray, List.getElem?_map, hi]; rfl))
          have HX5 : Hid (wr.cell? ⟨g4 + 1, k, none⟩ = some (.slice oa oN oc)) := Lib.hid ((cell_atP HTR.out.b5 k).trans (by rw [List.getElem?_toArray, List.getElem?_map, ho]; rfl))
          have HLTT := Lib.hid (And.intro (Array.getElem?_eq_some_iff.1 HTR.out.b4).1 (Array.getElem?_eq_some_iff.1 HTR.out.b5).1)
          have HLT := Lib.hid hlt
          clear hs hi ho q1 q2 q3 q4 hvi hvo hri hro hic him hoc hom hiN hoN hcl hsum hsl hr2 htk hsb hlt
          go_wp2_with fail
          refine HLE.out.mono ?_
          rintro e wl ⟨rfl, bl⟩
          have HBL := Lib.hid bl
          have x4 := (bl.cell (p := ⟨g4, k, none⟩) HLTT.out.1).trans HX4.out
          have x5 := (bl.cell (p := ⟨g4 + 1, k, none⟩) HLTT.out.2).trans HX5.out
          clear bl
          have HEQ2 : Hid (∀ d os, Calls Try.prog 23 #[.slice a2 oN ic, .slice oa oN oc] (grow (redrawn wl d) os) fun e w' => e = .returned (.bool true) ∧ Below (grow (redrawn wl d) os).heap.size (grow (redrawn wl d) os) w') := Lib.hid (fun d os => (HEQ.out _ (below_next HBL.out (below_regrown wl d os))).mono fun _ _ ⟨h1, nq, h2⟩ => ⟨h1, by rw [← h2]; exact below_drewN _ nq⟩)
          go_wp2_with fail
          have p4 := cell_regrown x4
          have p5 := cell_regrown x5
          have hsl := HSL.out
          refine wp_region_quiet_below (by kernel_rfl) (by kernel_rfl) ?_
          repeat (go_big_quiet_step ((go_at_call 23; exact Calls.regrown_of (HEQ2.out _ _))))
          refine wpQuiet_nil (regrown_name fun w3 b3 => ?_)
          have HBN := Lib.hid (below_next HBR.out (below_next HBL.out b3))
          clear b3 x4 x5 p4 p5 hsl
          go_wp2
          have h1 := HLT.out
          go_roundw
          case rel => exact ⟨k + 1, by go_num, by omega, HBN⟩
          case measure => simp [intOf]; omega
        · obtain rfl : k = 3 := by omega
          clear hlt
          have HTR := Lib.hid (HT.out.below HBR.out)
          have HCN := Lib.hid (pcount_is HTR.out.mm.pp)
          have hc3 : countP fl = 3 := countP_three HT.out.lf (fun s hs => by
            obtain ⟨K, hK⟩ := List.mem_iff_getElem?.1 hs
            have hK3 : K < 3 := by have := (List.getElem?_eq_some_iff.1 hK).1; rw [HT.out.lf] at this; exact this
            obtain ⟨⟨vi, li⟩, hi⟩ : ∃ x, ins[K]? = some x := ⟨_, List.getElem?_eq_getElem (by rw [HT.out.li]; exact hK3)⟩
            obtain ⟨⟨vo, lo⟩, ho⟩ : ∃ x, outs[K]? = some x := ⟨_, List.getElem?_eq_getElem (by rw [HT.out.lo]; exact hK3)⟩
            exact there_one (HE.out K s vi vo li lo hK hi ho).2.1)
          rw [hc3] at HCN
          have HBE := Lib.hid (below_next HB.out HBR.out)
          clear hc3
          go_wp2_with fail
          refine HCN.out.mono ?_
          rintro e wl ⟨rfl, bl⟩
          have HBF := Lib.hid (below_next HBE.out bl)
          clear bl
          go_wp2
          go_ret
          exact ⟨rfl, HBF.out⟩
end Go.Proofs.Ythainmbapikjiaa
