/- The law NameJoins, walked. -/
import Derived.Test.YtpnafikmbbnecaaDoorJoin3
import Derived.Deep.DeepCutAuto
namespace Go.Proofs.YtpnafikmbbnecaaDoor
open Go.RowKit Go.Sort
set_option linter.unusedVariables false
set_option linter.unusedSimpArgs false
set_option maxRecDepth 100000

theorem zero_rpath (w : World) : (zeroValue 31).run Tryd.prog w = .ok (.agg #[.bool false, .bool false, .slice none 0 0]) w := by kernel_rfl
set_option maxHeartbeats 12800000 in
theorem nameJoins_main (t1 t2 : ByteArray) (s s2 : ByteArray) (ht1 : shortS s = t1) (ht2 : shortS s2 = t2) (hs : s.size ≤ maxLen) (hs2 : s2.size ≤ maxLen) (abA diA : Bool) (QA : List Bs) (EA : Int) (abB diB : Bool) (QB : List Bs) (EB : Int)
    (hpa : ∀ W : World, Calls Tryd.prog 5 #[.string t1] W fun e w' => ∃ a cp, e = .returned (.tuple #[.agg #[.bool abA, .bool diA, .slice a QA.length cp], .int .i64 EA]) ∧ ReadsV w' a QA.length (strsV QA) ∧ QA.length ≤ cp ∧ cp ≤ maxLen ∧ Below W.heap.size W w')
    (hpb : ∀ W : World, Calls Tryd.prog 5 #[.string t2] W fun e w' => ∃ a cp, e = .returned (.tuple #[.agg #[.bool abB, .bool diB, .slice a QB.length cp], .int .i64 EB]) ∧ ReadsV w' a QB.length (strsV QB) ∧ QB.length ≤ cp ∧ cp ≤ maxLen ∧ Below W.heap.size W w')
    (hqa : QA.length ≤ 32) (hqb : QB.length ≤ 32) (w : World) :
    Calls Tryd.prog 3 #[.string s, .string s2] w fun e w' => e = .returned (.bool true) ∧ Below w.heap.size w w' := by
  have HPA := Lib.hid hpa
  have HPB := Lib.hid hpb
  have HQA := Lib.hid hqa
  have HQB := Lib.hid hqb
  have HS1 := Lib.hid (fun W : World => short_is s W hs)
  have HS2 := Lib.hid (fun W : World => short_is s2 W hs2)
  rw [ht1] at HS1
  rw [ht2] at HS2
  clear hpa hpb hqa hqb ht1 ht2
  go_enter Tryd.func3, Tryd.ntmps3
  go_wp2_with fail
  refine (awake8_true w).mono ?_
  rintro e w0 ⟨rfl, b⟩
  have HB0 := Lib.hid b
  clear b
  go_wp2_with fail
  refine (HS1.out w0).mono ?_
  rintro e w0' ⟨rfl, rfl⟩
  go_wp2_with fail
  refine (HPA.out w0).mono ?_
  rintro e w1 ⟨aA, cA, rfl, rA, _, _, b⟩
  have bb := below_box w1 (.cells #[.bool abA, .bool diA, .slice aA QA.length cA] 25)
  have np := heap_alloc_new w1 (.cells #[.bool abA, .bool diA, .slice aA QA.length cA] 25)
  have HB1 : Hid (Below w.heap.size w (w1.alloc (.cells #[.bool abA, .bool diA, .slice aA QA.length cA] 25))) := Lib.hid (below_next (below_next HB0.out b) bb)
  have rA1 := rA.below bb
  obtain ⟨wA, hwA⟩ : ∃ x, w1.alloc (.cells #[.bool abA, .bool diA, .slice aA QA.length cA] 25) = x := ⟨_, rfl⟩
  rw [hwA] at bb np HB1 rA1
  have HRA := Lib.hid rA1
  have HNP := Lib.hid np
  clear b bb rA rA1 HB0 np
  go_wp2_with fail
  refine (HS2.out wA).mono ?_
  rintro e w2' ⟨rfl, rfl⟩
  obtain ⟨gp, hgp⟩ : ∃ g, w1.heap.size = g := ⟨_, rfl⟩
  rw [hgp] at HNP ⊢
  clear hgp hwA
  go_wp2_with fail
  refine (HPB.out wA).mono ?_
  rintro e w2 ⟨aB, cB, rfl, rB, _, _, b⟩
  have bb := below_box w2 (.cells #[.bool abB, .bool diB, .slice aB QB.length cB] 25)
  have nq := heap_alloc_new w2 (.cells #[.bool abB, .bool diB, .slice aB QB.length cB] 25)
  have np3 := (bb.block gp (Nat.lt_of_lt_of_le (Array.getElem?_eq_some_iff.1 HNP.out).1 b.size)).trans ((b.block gp (Array.getElem?_eq_some_iff.1 HNP.out).1).trans HNP.out)
  have HB2 : Hid (Below w.heap.size w (w2.alloc (.cells #[.bool abB, .bool diB, .slice aB QB.length cB] 25))) := Lib.hid (below_next (below_next HB1.out b) bb)
  have rA3 := (HRA.out.below b).below bb
  have rB3 := rB.below bb
  obtain ⟨wB, hwB⟩ : ∃ x, w2.alloc (.cells #[.bool abB, .bool diB, .slice aB QB.length cB] 25) = x := ⟨_, rfl⟩
  rw [hwB] at nq np3 HB2 rA3 rB3
  have KP := Lib.hid (kept3_of np3)
  have KQ := Lib.hid (kept3_of nq)
  have HRA3 := Lib.hid rA3
  have HRB3 := Lib.hid rB3
  clear b bb rB rA3 rB3 nq np3 HRA HNP HB1
  rcases Decidable.em (EA = 0) with hEA | hEA
  rotate_left
  · have he : (EA != 0) = true := by simpa using hEA
    go_wp2
    go_ret
    exact ⟨rfl, HB2.out⟩
  rcases Decidable.em (EB = 0) with hEB | hEB
  rotate_left
  · subst hEA
    have he : (EB != 0) = true := by simpa using hEB
    go_wp2
    go_ret
    exact ⟨rfl, HB2.out⟩
  subst hEA hEB
  go_upto_region 7 with fail
  obtain ⟨gq, hgq⟩ : ∃ g, w2.heap.size = g := ⟨_, rfl⟩
  rw [hgq] at KQ ⊢
  clear hgq hwB HPA HPB HS1 HS2
  obtain ⟨JA, hJA⟩ : ∃ x, jAb abA abB = x := ⟨_, rfl⟩
  obtain ⟨JD, hJD⟩ : ∃ x, jDi abB diB QB = x := ⟨_, rfl⟩
  obtain ⟨JQ, hJQ⟩ : ∃ x, jL abB QA QB = x := ⟨_, rfl⟩
  have hJl : JQ.length ≤ 64 := by rw [← hJQ]; unfold jL; have := HQA.out; have := HQB.out; split <;> (try rw [List.length_append]) <;> omega
  have HJN := Lib.hid (fun (W : World) (h1 : ReadsV W aA QA.length (strsV QA)) (h2 : ReadsV W aB QB.length (strsV QB)) => join_any abA diA aA cA QA abB diB aB cB QB W h1 h2 (by have := HQA.out; omega) (by have := HQB.out; omega))
  rw [hJA, hJD, hJQ] at HJN
  have HJE := Lib.hid (And.intro hJA (And.intro hJD hJQ))
  have HJL := Lib.hid hJl
  clear hJA hJD hJQ hJl
  obtain ⟨p0, p1, p2, _, _, _, pz⟩ := KP.out
  obtain ⟨q0, q1, q2, _, _, _, qz⟩ := KQ.out
  go_wp2_with fail
  refine (HJN.out wB HRA3.out HRB3.out).mono ?_
  rintro e w5 hjp
  obtain ⟨ja, jc, rfl, jr, _, b5⟩ := hjp.path
  have bb := below_box w5 (.cells #[.bool JA, .bool JD, .slice ja JQ.length jc] 25)
  have nj := heap_alloc_new w5 (.cells #[.bool JA, .bool JD, .slice ja JQ.length jc] 25)
  have HB6 : Hid (Below wB.heap.size wB (w5.alloc (.cells #[.bool JA, .bool JD, .slice ja JQ.length jc] 25))) := Lib.hid (below_next b5 bb)
  have jr6 := jr.below bb
  obtain ⟨w6, hw6⟩ : ∃ x, w5.alloc (.cells #[.bool JA, .bool JD, .slice ja JQ.length jc] 25) = x := ⟨_, rfl⟩
  rw [hw6] at nj HB6 jr6
  have KJ := Lib.hid (kept3_of nj)
  have HJR := Lib.hid jr6
  have KP6 := KP.out.below HB6.out
  have KQ6 := KQ.out.below HB6.out
  have HS8 : Hid (∀ w', Below w6.heap.size w6 w' → w'.cell? ⟨gp, 0, none⟩ = some (.bool abA) ∧ w'.cell? ⟨gp, 2, none⟩ = some (.slice aA QA.length cA) ∧ w'.cell? ⟨gq, 1, none⟩ = some (.bool diB) ∧ w'.cell? ⟨gq, 2, none⟩ = some (.slice aB QB.length cB)) := Lib.hid (fun w' h => ⟨(KP6.below h).1, (KP6.below h).2.2.1, (KQ6.below h).2.1, (KQ6.below h).2.2.1⟩)
  have HKP6 := Lib.hid KP6
  have HKQ6 := Lib.hid KQ6
  have HRA6 := Lib.hid (HRA3.out.below HB6.out)
  have HRB6 := Lib.hid (HRB3.out.below HB6.out)
  have HBF : Hid (Below w.heap.size w w6) := Lib.hid (HB2.out.trans (HB6.out.mono HB2.out.size))
  have hz3 := fun W => zero_rpath W
  clear hjp jr jr6 b5 bb nj p0 p1 p2 pz q0 q1 q2 qz KP6 KQ6 KP KQ HRA3 HRB3 HB2 HB6
  go_upto_region 8 with fail
  clear hw6
  obtain ⟨p9, hp9⟩ : ∃ g, w5.heap.size = g := ⟨_, rfl⟩
  rw [hp9] at KJ ⊢
  clear hp9
  have Hd : Below w6.heap.size w6 w6.drew := ⟨rfl, rfl, rfl, Nat.le_refl _, fun _ _ => rfl⟩
  have hdm : ((QB.length : Int) == 0) = decide (QB = []) := by
    cases QB with
    | nil => rfl
    | cons m M => simp; omega
  obtain ⟨D8, hD8⟩ : ∃ d, (diB || decide (QB = [])) = d := ⟨_, rfl⟩
  have HD8 := Lib.hid hD8
  clear hD8
  go_cut [10] (fun v10 wc => ∃ (p10 : Nat) (rb : Option Addr) (cb : Nat), v10 = .pointer (some ⟨p10, 0, none⟩) ∧ Hid (wc.heap[p10]? = some (.cells #[.bool abA, .bool D8, .slice rb (QA ++ QB).length cb] 31 (0, 0))) ∧ Hid (ReadsV wc rb (QA ++ QB).length (strsV (QA ++ QB))) ∧ Hid (Below w6.heap.size w6 wc) ∧ Hid (w6.heap.size ≤ p10))
  case first =>
    cases diB with
    | true =>
      refine wp_region_noPanic ?_
      refine wp_region_held_drew (S := (fun w' => w'.cell? ⟨gp, 0, none⟩ = some (.bool abA) ∧ w'.cell? ⟨gp, 2, none⟩ = some (.slice aA QA.length cA) ∧ w'.cell? ⟨gq, 1, none⟩ = some (.bool true) ∧ w'.cell? ⟨gq, 2, none⟩ = some (.slice aB QB.length cB))) (by kernel_rfl) (HS8.out _ Hd) (fun hHeld => ?_)
      refine wpAnyH_take (i := 0) (v := .pointer (some ⟨gp, 0, none⟩)) rfl (by kernel_rfl) (by kernel_rfl) (by kernel_rfl) (fun _ _ _ h => h) (Or.inl ⟨by kernel_rfl, fun wS hSw => by
        dsimp only at hSw
        obtain ⟨sq0, sq1, sq2, sq3⟩ := hSw
        go_simp⟩) hHeld ?_
      try simp only [Act.put, List.setIfInBounds_toArray, List.set_cons_zero, List.set_cons_succ]
      refine wpAnyH_take (i := 1) (v := .bool abA) rfl (by kernel_rfl) (by kernel_rfl) (by kernel_rfl) (fun _ _ _ h => h) (Or.inl ⟨by kernel_rfl, fun wS hSw => by
        dsimp only at hSw
        obtain ⟨sq0, sq1, sq2, sq3⟩ := hSw
        go_simp⟩) hHeld ?_
      try simp only [Act.put, List.setIfInBounds_toArray, List.set_cons_zero, List.set_cons_succ]
      refine wpAnyH_take (i := 2) (v := .pointer (some ⟨gq, 1, none⟩)) rfl (by kernel_rfl) (by kernel_rfl) (by kernel_rfl) (fun _ _ _ h => h) (Or.inl ⟨by kernel_rfl, fun wS hSw => by
        dsimp only at hSw
        obtain ⟨sq0, sq1, sq2, sq3⟩ := hSw
        go_simp⟩) hHeld ?_
      try simp only [Act.put, List.setIfInBounds_toArray, List.set_cons_zero, List.set_cons_succ]
      refine wpAnyH_take (i := 3) (v := .bool true) rfl (by kernel_rfl) (by kernel_rfl) (by kernel_rfl) (fun _ _ _ h => h) (Or.inl ⟨by kernel_rfl, fun wS hSw => by
        dsimp only at hSw
        obtain ⟨sq0, sq1, sq2, sq3⟩ := hSw
        go_simp⟩) hHeld ?_
      try simp only [Act.put, List.setIfInBounds_toArray, List.set_cons_zero, List.set_cons_succ]
      refine wpAnyH_take (i := 4) (v := .bool true) rfl (by kernel_rfl) (by kernel_rfl) (by kernel_rfl) (fun _ _ _ h => h) (Or.inl ⟨by kernel_rfl, fun wS hSw => by
        dsimp only at hSw
        obtain ⟨sq0, sq1, sq2, sq3⟩ := hSw
        go_simp⟩) hHeld ?_
      try simp only [Act.put, List.setIfInBounds_toArray, List.set_cons_zero, List.set_cons_succ]
      refine wpAnyH_take (i := 5) (v := undef) rfl (by kernel_rfl) (by kernel_rfl) (by kernel_rfl) (fun _ _ _ h => h) (Or.inr ⟨by kernel_rfl, rfl⟩) hHeld ?_
      try simp only [Act.put, List.setIfInBounds_toArray, List.set_cons_zero, List.set_cons_succ]
      refine wpAnyH_take (i := 6) (v := undef) rfl (by kernel_rfl) (by kernel_rfl) (by kernel_rfl) (fun _ _ _ h => h) (Or.inr ⟨by kernel_rfl, rfl⟩) hHeld ?_
      try simp only [Act.put, List.setIfInBounds_toArray, List.set_cons_zero, List.set_cons_succ]
      refine wpAnyH_take (i := 7) (v := undef) rfl (by kernel_rfl) (by kernel_rfl) (by kernel_rfl) (fun _ _ _ h => h) (Or.inr ⟨by kernel_rfl, rfl⟩) hHeld ?_
      try simp only [Act.put, List.setIfInBounds_toArray, List.set_cons_zero, List.set_cons_succ]
      refine wpAnyH_take (i := 8) (v := undef) rfl (by kernel_rfl) (by kernel_rfl) (by kernel_rfl) (fun _ _ _ h => h) (Or.inr ⟨by kernel_rfl, rfl⟩) hHeld ?_
      try simp only [Act.put, List.setIfInBounds_toArray, List.set_cons_zero, List.set_cons_succ]
      refine wpAnyH_take (i := 9) (v := .bool true) rfl (by kernel_rfl) (by kernel_rfl) (by kernel_rfl) (fun _ _ _ h => h) (Or.inl ⟨by kernel_rfl, fun wS hSw => by
        dsimp only at hSw
        obtain ⟨sq0, sq1, sq2, sq3⟩ := hSw
        go_simp⟩) hHeld ?_
      try simp only [Act.put, List.setIfInBounds_toArray, List.set_cons_zero, List.set_cons_succ]
      refine wpAnyH_take (i := 11) (v := .pointer (some ⟨gp, 2, none⟩)) rfl (by kernel_rfl) (by kernel_rfl) (by kernel_rfl) (fun _ _ _ h => h) (Or.inl ⟨by kernel_rfl, fun wS hSw => by
        dsimp only at hSw
        obtain ⟨sq0, sq1, sq2, sq3⟩ := hSw
        go_simp⟩) hHeld ?_
      try simp only [Act.put, List.setIfInBounds_toArray, List.set_cons_zero, List.set_cons_succ]
      refine wpAnyH_take (i := 12) (v := .slice aA QA.length cA) rfl (by kernel_rfl) (by kernel_rfl) (by kernel_rfl) (fun _ _ _ h => h) (Or.inl ⟨by kernel_rfl, fun wS hSw => by
        dsimp only at hSw
        obtain ⟨sq0, sq1, sq2, sq3⟩ := hSw
        go_simp⟩) hHeld ?_
      try simp only [Act.put, List.setIfInBounds_toArray, List.set_cons_zero, List.set_cons_succ]
      refine wpAnyH_take (i := 14) (v := .pointer (some ⟨gq, 2, none⟩)) rfl (by kernel_rfl) (by kernel_rfl) (by kernel_rfl) (fun _ _ _ h => h) (Or.inl ⟨by kernel_rfl, fun wS hSw => by
        dsimp only at hSw
        obtain ⟨sq0, sq1, sq2, sq3⟩ := hSw
        go_simp⟩) hHeld ?_
      try simp only [Act.put, List.setIfInBounds_toArray, List.set_cons_zero, List.set_cons_succ]
      refine wpAnyH_take (i := 15) (v := .slice aB QB.length cB) rfl (by kernel_rfl) (by kernel_rfl) (by kernel_rfl) (fun _ _ _ h => h) (Or.inl ⟨by kernel_rfl, fun wS hSw => by
        dsimp only at hSw
        obtain ⟨sq0, sq1, sq2, sq3⟩ := hSw
        go_simp⟩) hHeld ?_
      try simp only [Act.put, List.setIfInBounds_toArray, List.set_cons_zero, List.set_cons_succ]
      have HC := Lib.hid Hd
      refine wpAnyH_ready (rs := [10, 18]) (by kernel_rfl) (by simp) ?_
      refine AllReadyH.cons rfl (fun K hK => ?_) ?_
      · skip
        go_simp
        change K _ (w6.drew.alloc (.cells #[] 9))
        have b := below_box w6.drew (.cells #[] 9)
        have o1 := OwnsV.new (B := w6.heap.size) (w := w6.drew) (e := 9) #[] HC.out.size (by decide)
        have HC2 : Hid (Below w6.heap.size w6 (w6.drew.alloc (.cells #[] 9))) := Lib.hid (HC.out.trans (b.mono HC.out.size))
        obtain ⟨c1, hc1⟩ : ∃ x, w6.drew.alloc (.cells #[] 9) = x := ⟨_, rfl⟩
        rw [hc1] at b o1 HC2 ⊢
        have HV : Hid (OwnsV w6.heap.size c1 9 (.slice (some ⟨w6.heap.size, 0, none⟩) 0 0) (strsV [])) := Lib.hid o1
        clear b o1 hc1
        refine hK.out _ _ (HS8.out _ HC2.out) (fun hHeld2 => ?_)
        clear hK K hHeld
        have hHeld := hHeld2
        clear hHeld2
        try simp only [Act.put, List.setIfInBounds_toArray, List.set_cons_zero, List.set_cons_succ]
        clear HC
        have HC := HC2
        clear HC2
        refine wpAnyH_ready (rs := [13, 18]) (by kernel_rfl) (by simp) ?_
        refine AllReadyH.cons rfl (fun K hK => ?_) ?_
        · skip
          refine step_app (W := w6) (by kernel_rfl) _ _ rfl (.slice (some ⟨w6.heap.size, 0, none⟩) 0 0) [] QA (by have := HQA.out; first | (simp; done) | omega) (by have := HQA.out; have := HQB.out; omega) rfl HC.out HV.out aA cA (HRA6.out.below HC.out) rfl (fun vF c2 o2 b2 g2 => ?_)
          have HV2 : Hid (OwnsV w6.heap.size c2 9 vF (strsV QA)) := Lib.hid o2
          have HC2 := Lib.hid b2
          clear o2 b2 g2
          refine hK.out _ _ (HS8.out _ HC2.out) (fun hHeld2 => ?_)
          clear hK K hHeld
          have hHeld := hHeld2
          clear hHeld2
          try simp only [Act.put, List.setIfInBounds_toArray, List.set_cons_zero, List.set_cons_succ]
          clear HC HV
          have HC := HC2
          have HV := HV2
          clear HC2 HV2
          refine wpAnyH_ready (rs := [16, 18]) (by kernel_rfl) (by simp) ?_
          refine AllReadyH.cons rfl (fun K hK => ?_) ?_
          · skip
            refine step_app (W := w6) (by kernel_rfl) _ _ rfl vF QA QB (by have := HQA.out; first | (simp; done) | omega) (by have := HQA.out; have := HQB.out; omega) rfl HC.out HV.out aB cB (HRB6.out.below HC.out) rfl (fun vG c3 o2 b2 g2 => ?_)
            have HV2 : Hid (OwnsV w6.heap.size c3 9 vG (strsV (QA ++ QB))) := Lib.hid o2
            have HC2 := Lib.hid b2
            clear o2 b2 g2
            refine hK.out _ _ (HS8.out _ HC2.out) (fun hHeld2 => ?_)
            clear hK K hHeld
            have hHeld := hHeld2
            clear hHeld2
            try simp only [Act.put, List.setIfInBounds_toArray, List.set_cons_zero, List.set_cons_succ]
            clear HC HV
            have HC := HC2
            have HV := HV2
            clear HC2 HV2
            obtain ⟨ga, gc, hgv, hgr, _, _⟩ := HV.out.reads
            obtain ⟨gn, hgn⟩ : ∃ n, (strsV (QA ++ QB)).length = n := ⟨_, rfl⟩
            rw [hgn] at hgv
            subst hgv
            clear hgr
            refine wpAnyH_take (i := 17) (v := .agg #[.bool abA, .bool true, .slice ga gn gc]) rfl (by kernel_rfl) (by kernel_rfl) (by kernel_rfl) (fun _ _ _ h => h) (Or.inl ⟨by kernel_rfl, fun wS hSw => by
              dsimp only at hSw
              obtain ⟨sq0, sq1, sq2, sq3⟩ := hSw
              go_simp⟩) hHeld ?_
            try simp only [Act.put, List.setIfInBounds_toArray, List.set_cons_zero, List.set_cons_succ]
            refine wpAnyH_ready (rs := [18]) (by kernel_rfl) (by simp) ?_
            refine AllReadyH.cons rfl (fun K hK => ?_) AllReadyH.nil
            go_simp
            change K _ (c3.alloc (.cells #[.bool false, .bool false, .slice none 0 0] 31))
            have b := below_box c3 (.cells #[.bool false, .bool false, .slice none 0 0] 31)
            have x1 := heap_alloc_new c3 (.cells #[.bool false, .bool false, .slice none 0 0] 31)
            have HC2 : Hid (Below w6.heap.size w6 (c3.alloc (.cells #[.bool false, .bool false, .slice none 0 0] 31))) := Lib.hid (HC.out.trans (b.mono HC.out.size))
            have o1 := HV.out.below b
            obtain ⟨c4, hc4⟩ : ∃ x, c3.alloc (.cells #[.bool false, .bool false, .slice none 0 0] 31) = x := ⟨_, rfl⟩
            rw [hc4] at b x1 HC2 o1 ⊢
            have hle : w6.heap.size ≤ c3.heap.size := HC.out.size
            have HX : Hid (c4.heap[c3.heap.size]? = some (.cells #[.bool false, .bool false, .slice none 0 0] 31 (0, 0))) := Lib.hid x1
            clear x1
            clear HV
            have HV := Lib.hid o1
            clear o1
            clear b hc4
            refine hK.out _ _ (HS8.out _ HC2.out) (fun hHeld2 => ?_)
            clear hK K hHeld
            have hHeld := hHeld2
            clear hHeld2
            try simp only [Act.put, List.setIfInBounds_toArray, List.set_cons_zero, List.set_cons_succ]
            clear HC
            have HC := HC2
            clear HC2
            have hk3 := kept3_of HX.out
            obtain ⟨k0, k1, k2, kf0, kf1, kf2, kz⟩ := hk3
            obtain ⟨xx, xo⟩ := over3 HX.out (.bool abA) (.bool true) (.slice ga gn gc)
            have oo := xo (by decide) HV.out
            have HCf : Hid (Below w6.heap.size w6 (((c4.setCell ⟨c3.heap.size, 0, none⟩ (.bool abA)).setCell ⟨c3.heap.size, 1, none⟩ (.bool true)).setCell ⟨c3.heap.size, 2, none⟩ (.slice ga gn gc))) := Lib.hid (((HC.out.setCell hle _).setCell hle _).setCell hle _)
            refine wpAnyH_ready (rs := [19]) (by kernel_rfl) (by simp) ?_
            refine AllReadyH.cons rfl (fun K hK => ?_) AllReadyH.nil
            go_simp
            obtain ⟨cf, hcf⟩ : ∃ x, (((c4.setCell ⟨c3.heap.size, 0, none⟩ (.bool abA)).setCell ⟨c3.heap.size, 1, none⟩ (.bool true)).setCell ⟨c3.heap.size, 2, none⟩ (.slice ga gn gc)) = x := ⟨_, rfl⟩
            rw [hcf] at xx oo HCf ⊢
            clear hcf k0 k1 k2 kf0 kf1 kf2 kz xo
            refine hK.out _ _ (HS8.out _ HCf.out) (fun hHeld2 => ?_)
            clear hK K hHeld
            have hHeld := hHeld2
            clear hHeld2
            try simp only [Act.put, List.setIfInBounds_toArray, List.set_cons_zero, List.set_cons_succ]
            refine wpAnyH_done (by kernel_rfl) (NoPanic.normal ?_) _
            clear hHeld HC HV HX
            try (go_wp2_with fail)
            go_meet
            obtain ⟨xa, xc, xv, xr, _, _⟩ := oo.reads
            injection xv with xv1 xv2 xv3
            subst xv1 xv3
            rw [strsV_length] at xr
            rw [strsV_length] at hgn
            subst hgn
            exact ⟨c3.heap.size, _, _, rfl, Lib.hid (by rw [← HD8.out]; exact xx), Lib.hid xr, HCf, Lib.hid hle⟩
          refine AllReadyH.cons rfl (fun K hK => ?_) AllReadyH.nil
          go_simp
          change K _ (c2.alloc (.cells #[.bool false, .bool false, .slice none 0 0] 31))
          have b := below_box c2 (.cells #[.bool false, .bool false, .slice none 0 0] 31)
          have x1 := heap_alloc_new c2 (.cells #[.bool false, .bool false, .slice none 0 0] 31)
          have HC2 : Hid (Below w6.heap.size w6 (c2.alloc (.cells #[.bool false, .bool false, .slice none 0 0] 31))) := Lib.hid (HC.out.trans (b.mono HC.out.size))
          have o1 := HV.out.below b
          obtain ⟨c5, hc5⟩ : ∃ x, c2.alloc (.cells #[.bool false, .bool false, .slice none 0 0] 31) = x := ⟨_, rfl⟩
          rw [hc5] at b x1 HC2 o1 ⊢
          have hle : w6.heap.size ≤ c2.heap.size := HC.out.size
          have HX : Hid (c5.heap[c2.heap.size]? = some (.cells #[.bool false, .bool false, .slice none 0 0] 31 (0, 0))) := Lib.hid x1
          clear x1
          clear HV
          have HV := Lib.hid o1
          clear o1
          clear b hc5
          refine hK.out _ _ (HS8.out _ HC2.out) (fun hHeld2 => ?_)
          clear hK K hHeld
          have hHeld := hHeld2
          clear hHeld2
          try simp only [Act.put, List.setIfInBounds_toArray, List.set_cons_zero, List.set_cons_succ]
          clear HC
          have HC := HC2
          clear HC2
          refine wpAnyH_ready (rs := [16]) (by kernel_rfl) (by simp) ?_
          refine AllReadyH.cons rfl (fun K hK => ?_) AllReadyH.nil
          refine step_app (W := w6) (by kernel_rfl) _ _ rfl vF QA QB (by have := HQA.out; first | (simp; done) | omega) (by have := HQA.out; have := HQB.out; omega) rfl HC.out HV.out aB cB (HRB6.out.below HC.out) rfl (fun vG c6 o2 b2 g2 => ?_)
          have HV2 : Hid (OwnsV w6.heap.size c6 9 vG (strsV (QA ++ QB))) := Lib.hid o2
          have HC2 := Lib.hid b2
          have x1 := box_grown HV.out HX.out (by decide) g2
          clear HX
          have HX := Lib.hid x1
          clear x1
          clear o2 b2 g2
          refine hK.out _ _ (HS8.out _ HC2.out) (fun hHeld2 => ?_)
          clear hK K hHeld
          have hHeld := hHeld2
          clear hHeld2
          try simp only [Act.put, List.setIfInBounds_toArray, List.set_cons_zero, List.set_cons_succ]
          clear HC HV
          have HC := HC2
          have HV := HV2
          clear HC2 HV2
          obtain ⟨ga, gc, hgv, hgr, _, _⟩ := HV.out.reads
          obtain ⟨gn, hgn⟩ : ∃ n, (strsV (QA ++ QB)).length = n := ⟨_, rfl⟩
          rw [hgn] at hgv
          subst hgv
          clear hgr
          refine wpAnyH_take (i := 17) (v := .agg #[.bool abA, .bool true, .slice ga gn gc]) rfl (by kernel_rfl) (by kernel_rfl) (by kernel_rfl) (fun _ _ _ h => h) (Or.inl ⟨by kernel_rfl, fun wS hSw => by
            dsimp only at hSw
            obtain ⟨sq0, sq1, sq2, sq3⟩ := hSw
            go_simp⟩) hHeld ?_
          try simp only [Act.put, List.setIfInBounds_toArray, List.set_cons_zero, List.set_cons_succ]
          have hk3 := kept3_of HX.out
          obtain ⟨k0, k1, k2, kf0, kf1, kf2, kz⟩ := hk3
          obtain ⟨xx, xo⟩ := over3 HX.out (.bool abA) (.bool true) (.slice ga gn gc)
          have oo := xo (by decide) HV.out
          have HCf : Hid (Below w6.heap.size w6 (((c6.setCell ⟨c2.heap.size, 0, none⟩ (.bool abA)).setCell ⟨c2.heap.size, 1, none⟩ (.bool true)).setCell ⟨c2.heap.size, 2, none⟩ (.slice ga gn gc))) := Lib.hid (((HC.out.setCell hle _).setCell hle _).setCell hle _)
          refine wpAnyH_ready (rs := [19]) (by kernel_rfl) (by simp) ?_
          refine AllReadyH.cons rfl (fun K hK => ?_) AllReadyH.nil
          go_simp
          obtain ⟨cf, hcf⟩ : ∃ x, (((c6.setCell ⟨c2.heap.size, 0, none⟩ (.bool abA)).setCell ⟨c2.heap.size, 1, none⟩ (.bool true)).setCell ⟨c2.heap.size, 2, none⟩ (.slice ga gn gc)) = x := ⟨_, rfl⟩
          rw [hcf] at xx oo HCf ⊢
          clear hcf k0 k1 k2 kf0 kf1 kf2 kz xo
          refine hK.out _ _ (HS8.out _ HCf.out) (fun hHeld2 => ?_)
          clear hK K hHeld
          have hHeld := hHeld2
          clear hHeld2
          try simp only [Act.put, List.setIfInBounds_toArray, List.set_cons_zero, List.set_cons_succ]
          refine wpAnyH_done (by kernel_rfl) (NoPanic.normal ?_) _
          clear hHeld HC HV HX
          try (go_wp2_with fail)
          go_meet
          obtain ⟨xa, xc, xv, xr, _, _⟩ := oo.reads
          injection xv with xv1 xv2 xv3
          subst xv1 xv3
          rw [strsV_length] at xr
          rw [strsV_length] at hgn
          subst hgn
          exact ⟨c2.heap.size, _, _, rfl, Lib.hid (by rw [← HD8.out]; exact xx), Lib.hid xr, HCf, Lib.hid hle⟩
        refine AllReadyH.cons rfl (fun K hK => ?_) AllReadyH.nil
        go_simp
        change K _ (c1.alloc (.cells #[.bool false, .bool false, .slice none 0 0] 31))
        have b := below_box c1 (.cells #[.bool false, .bool false, .slice none 0 0] 31)
        have x1 := heap_alloc_new c1 (.cells #[.bool false, .bool false, .slice none 0 0] 31)
        have HC2 : Hid (Below w6.heap.size w6 (c1.alloc (.cells #[.bool false, .bool false, .slice none 0 0] 31))) := Lib.hid (HC.out.trans (b.mono HC.out.size))
        have o1 := HV.out.below b
        obtain ⟨c7, hc7⟩ : ∃ x, c1.alloc (.cells #[.bool false, .bool false, .slice none 0 0] 31) = x := ⟨_, rfl⟩
        rw [hc7] at b x1 HC2 o1 ⊢
        have hle : w6.heap.size ≤ c1.heap.size := HC.out.size
        have HX : Hid (c7.heap[c1.heap.size]? = some (.cells #[.bool false, .bool false, .slice none 0 0] 31 (0, 0))) := Lib.hid x1
        clear x1
        clear HV
        have HV := Lib.hid o1
        clear o1
        clear b hc7
        refine hK.out _ _ (HS8.out _ HC2.out) (fun hHeld2 => ?_)
        clear hK K hHeld
        have hHeld := hHeld2
        clear hHeld2
        try simp only [Act.put, List.setIfInBounds_toArray, List.set_cons_zero, List.set_cons_succ]
        clear HC
        have HC := HC2
        clear HC2
        refine wpAnyH_ready (rs := [13]) (by kernel_rfl) (by simp) ?_
        refine AllReadyH.cons rfl (fun K hK => ?_) AllReadyH.nil
        refine step_app (W := w6) (by kernel_rfl) _ _ rfl (.slice (some ⟨w6.heap.size, 0, none⟩) 0 0) [] QA (by have := HQA.out; first | (simp; done) | omega) (by have := HQA.out; have := HQB.out; omega) rfl HC.out HV.out aA cA (HRA6.out.below HC.out) rfl (fun vF c8 o2 b2 g2 => ?_)
        have HV2 : Hid (OwnsV w6.heap.size c8 9 vF (strsV QA)) := Lib.hid o2
        have HC2 := Lib.hid b2
        have x1 := box_grown HV.out HX.out (by decide) g2
        clear HX
        have HX := Lib.hid x1
        clear x1
        clear o2 b2 g2
        refine hK.out _ _ (HS8.out _ HC2.out) (fun hHeld2 => ?_)
        clear hK K hHeld
        have hHeld := hHeld2
        clear hHeld2
        try simp only [Act.put, List.setIfInBounds_toArray, List.set_cons_zero, List.set_cons_succ]
        clear HC HV
        have HC := HC2
        have HV := HV2
        clear HC2 HV2
        refine wpAnyH_ready (rs := [16]) (by kernel_rfl) (by simp) ?_
        refine AllReadyH.cons rfl (fun K hK => ?_) AllReadyH.nil
        refine step_app (W := w6) (by kernel_rfl) _ _ rfl vF QA QB (by have := HQA.out; first | (simp; done) | omega) (by have := HQA.out; have := HQB.out; omega) rfl HC.out HV.out aB cB (HRB6.out.below HC.out) rfl (fun vG c9 o2 b2 g2 => ?_)
        have HV2 : Hid (OwnsV w6.heap.size c9 9 vG (strsV (QA ++ QB))) := Lib.hid o2
        have HC2 := Lib.hid b2
        have x1 := box_grown HV.out HX.out (by decide) g2
        clear HX
        have HX := Lib.hid x1
        clear x1
        clear o2 b2 g2
        refine hK.out _ _ (HS8.out _ HC2.out) (fun hHeld2 => ?_)
        clear hK K hHeld
        have hHeld := hHeld2
        clear hHeld2
        try simp only [Act.put, List.setIfInBounds_toArray, List.set_cons_zero, List.set_cons_succ]
        clear HC HV
        have HC := HC2
        have HV := HV2
        clear HC2 HV2
        obtain ⟨ga, gc, hgv, hgr, _, _⟩ := HV.out.reads
        obtain ⟨gn, hgn⟩ : ∃ n, (strsV (QA ++ QB)).length = n := ⟨_, rfl⟩
        rw [hgn] at hgv
        subst hgv
        clear hgr
        refine wpAnyH_take (i := 17) (v := .agg #[.bool abA, .bool true, .slice ga gn gc]) rfl (by kernel_rfl) (by kernel_rfl) (by kernel_rfl) (fun _ _ _ h => h) (Or.inl ⟨by kernel_rfl, fun wS hSw => by
          dsimp only at hSw
          obtain ⟨sq0, sq1, sq2, sq3⟩ := hSw
          go_simp⟩) hHeld ?_
        try simp only [Act.put, List.setIfInBounds_toArray, List.set_cons_zero, List.set_cons_succ]
        have hk3 := kept3_of HX.out
        obtain ⟨k0, k1, k2, kf0, kf1, kf2, kz⟩ := hk3
        obtain ⟨xx, xo⟩ := over3 HX.out (.bool abA) (.bool true) (.slice ga gn gc)
        have oo := xo (by decide) HV.out
        have HCf : Hid (Below w6.heap.size w6 (((c9.setCell ⟨c1.heap.size, 0, none⟩ (.bool abA)).setCell ⟨c1.heap.size, 1, none⟩ (.bool true)).setCell ⟨c1.heap.size, 2, none⟩ (.slice ga gn gc))) := Lib.hid (((HC.out.setCell hle _).setCell hle _).setCell hle _)
        refine wpAnyH_ready (rs := [19]) (by kernel_rfl) (by simp) ?_
        refine AllReadyH.cons rfl (fun K hK => ?_) AllReadyH.nil
        go_simp
        obtain ⟨cf, hcf⟩ : ∃ x, (((c9.setCell ⟨c1.heap.size, 0, none⟩ (.bool abA)).setCell ⟨c1.heap.size, 1, none⟩ (.bool true)).setCell ⟨c1.heap.size, 2, none⟩ (.slice ga gn gc)) = x := ⟨_, rfl⟩
        rw [hcf] at xx oo HCf ⊢
        clear hcf k0 k1 k2 kf0 kf1 kf2 kz xo
        refine hK.out _ _ (HS8.out _ HCf.out) (fun hHeld2 => ?_)
        clear hK K hHeld
        have hHeld := hHeld2
        clear hHeld2
        try simp only [Act.put, List.setIfInBounds_toArray, List.set_cons_zero, List.set_cons_succ]
        refine wpAnyH_done (by kernel_rfl) (NoPanic.normal ?_) _
        clear hHeld HC HV HX
        try (go_wp2_with fail)
        go_meet
        obtain ⟨xa, xc, xv, xr, _, _⟩ := oo.reads
        injection xv with xv1 xv2 xv3
        subst xv1 xv3
        rw [strsV_length] at xr
        rw [strsV_length] at hgn
        subst hgn
        exact ⟨c1.heap.size, _, _, rfl, Lib.hid (by rw [← HD8.out]; exact xx), Lib.hid xr, HCf, Lib.hid hle⟩
      refine AllReadyH.cons rfl (fun K hK => ?_) AllReadyH.nil
      go_simp
      change K _ (w6.drew.alloc (.cells #[.bool false, .bool false, .slice none 0 0] 31))
      have b := below_box w6.drew (.cells #[.bool false, .bool false, .slice none 0 0] 31)
      have x1 := heap_alloc_new w6.drew (.cells #[.bool false, .bool false, .slice none 0 0] 31)
      have HC2 : Hid (Below w6.heap.size w6 (w6.drew.alloc (.cells #[.bool false, .bool false, .slice none 0 0] 31))) := Lib.hid (HC.out.trans (b.mono HC.out.size))
      obtain ⟨c10, hc10⟩ : ∃ x, w6.drew.alloc (.cells #[.bool false, .bool false, .slice none 0 0] 31) = x := ⟨_, rfl⟩
      rw [hc10] at b x1 HC2 ⊢
      have hle : w6.heap.size ≤ w6.heap.size := HC.out.size
      have HX : Hid (c10.heap[w6.heap.size]? = some (.cells #[.bool false, .bool false, .slice none 0 0] 31 (0, 0))) := Lib.hid x1
      clear x1
      clear b hc10
      refine hK.out _ _ (HS8.out _ HC2.out) (fun hHeld2 => ?_)
      clear hK K hHeld
      have hHeld := hHeld2
      clear hHeld2
      try simp only [Act.put, List.setIfInBounds_toArray, List.set_cons_zero, List.set_cons_succ]
      clear HC
      have HC := HC2
      clear HC2
      refine wpAnyH_ready (rs := [10]) (by kernel_rfl) (by simp) ?_
      refine AllReadyH.cons rfl (fun K hK => ?_) AllReadyH.nil
      go_simp
      change K _ (c10.alloc (.cells #[] 9))
      have b := below_box c10 (.cells #[] 9)
      have o1 := OwnsV.new (B := w6.heap.size) (w := c10) (e := 9) #[] HC.out.size (by decide)
      have HC2 : Hid (Below w6.heap.size w6 (c10.alloc (.cells #[] 9))) := Lib.hid (HC.out.trans (b.mono HC.out.size))
      have x1 := (b.block w6.heap.size (Array.getElem?_eq_some_iff.1 HX.out).1).trans HX.out
      obtain ⟨c11, hc11⟩ : ∃ x, c10.alloc (.cells #[] 9) = x := ⟨_, rfl⟩
      rw [hc11] at b o1 HC2 x1 ⊢
      have HV : Hid (OwnsV w6.heap.size c11 9 (.slice (some ⟨c10.heap.size, 0, none⟩) 0 0) (strsV [])) := Lib.hid o1
      clear HX
      have HX := Lib.hid x1
      clear x1
      clear b o1 hc11
      refine hK.out _ _ (HS8.out _ HC2.out) (fun hHeld2 => ?_)
      clear hK K hHeld
      have hHeld := hHeld2
      clear hHeld2
      try simp only [Act.put, List.setIfInBounds_toArray, List.set_cons_zero, List.set_cons_succ]
      clear HC
      have HC := HC2
      clear HC2
      refine wpAnyH_ready (rs := [13]) (by kernel_rfl) (by simp) ?_
      refine AllReadyH.cons rfl (fun K hK => ?_) AllReadyH.nil
      refine step_app (W := w6) (by kernel_rfl) _ _ rfl (.slice (some ⟨c10.heap.size, 0, none⟩) 0 0) [] QA (by have := HQA.out; first | (simp; done) | omega) (by have := HQA.out; have := HQB.out; omega) rfl HC.out HV.out aA cA (HRA6.out.below HC.out) rfl (fun vF c12 o2 b2 g2 => ?_)
      have HV2 : Hid (OwnsV w6.heap.size c12 9 vF (strsV QA)) := Lib.hid o2
      have HC2 := Lib.hid b2
      have x1 := box_grown HV.out HX.out (by decide) g2
      clear HX
      have HX := Lib.hid x1
      clear x1
      clear o2 b2 g2
      refine hK.out _ _ (HS8.out _ HC2.out) (fun hHeld2 => ?_)
      clear hK K hHeld
      have hHeld := hHeld2
      clear hHeld2
      try simp only [Act.put, List.setIfInBounds_toArray, List.set_cons_zero, List.set_cons_succ]
      clear HC HV
      have HC := HC2
      have HV := HV2
      clear HC2 HV2
      refine wpAnyH_ready (rs := [16]) (by kernel_rfl) (by simp) ?_
      refine AllReadyH.cons rfl (fun K hK => ?_) AllReadyH.nil
      refine step_app (W := w6) (by kernel_rfl) _ _ rfl vF QA QB (by have := HQA.out; first | (simp; done) | omega) (by have := HQA.out; have := HQB.out; omega) rfl HC.out HV.out aB cB (HRB6.out.below HC.out) rfl (fun vG c13 o2 b2 g2 => ?_)
      have HV2 : Hid (OwnsV w6.heap.size c13 9 vG (strsV (QA ++ QB))) := Lib.hid o2
      have HC2 := Lib.hid b2
      have x1 := box_grown HV.out HX.out (by decide) g2
      clear HX
      have HX := Lib.hid x1
      clear x1
      clear o2 b2 g2
      refine hK.out _ _ (HS8.out _ HC2.out) (fun hHeld2 => ?_)
      clear hK K hHeld
      have hHeld := hHeld2
      clear hHeld2
      try simp only [Act.put, List.setIfInBounds_toArray, List.set_cons_zero, List.set_cons_succ]
      clear HC HV
      have HC := HC2
      have HV := HV2
      clear HC2 HV2
      obtain ⟨ga, gc, hgv, hgr, _, _⟩ := HV.out.reads
      obtain ⟨gn, hgn⟩ : ∃ n, (strsV (QA ++ QB)).length = n := ⟨_, rfl⟩
      rw [hgn] at hgv
      subst hgv
      clear hgr
      refine wpAnyH_take (i := 17) (v := .agg #[.bool abA, .bool true, .slice ga gn gc]) rfl (by kernel_rfl) (by kernel_rfl) (by kernel_rfl) (fun _ _ _ h => h) (Or.inl ⟨by kernel_rfl, fun wS hSw => by
        dsimp only at hSw
        obtain ⟨sq0, sq1, sq2, sq3⟩ := hSw
        go_simp⟩) hHeld ?_
      try simp only [Act.put, List.setIfInBounds_toArray, List.set_cons_zero, List.set_cons_succ]
      have hk3 := kept3_of HX.out
      obtain ⟨k0, k1, k2, kf0, kf1, kf2, kz⟩ := hk3
      obtain ⟨xx, xo⟩ := over3 HX.out (.bool abA) (.bool true) (.slice ga gn gc)
      have oo := xo (by decide) HV.out
      have HCf : Hid (Below w6.heap.size w6 (((c13.setCell ⟨w6.heap.size, 0, none⟩ (.bool abA)).setCell ⟨w6.heap.size, 1, none⟩ (.bool true)).setCell ⟨w6.heap.size, 2, none⟩ (.slice ga gn gc))) := Lib.hid (((HC.out.setCell hle _).setCell hle _).setCell hle _)
      refine wpAnyH_ready (rs := [19]) (by kernel_rfl) (by simp) ?_
      refine AllReadyH.cons rfl (fun K hK => ?_) AllReadyH.nil
      go_simp
      obtain ⟨cf, hcf⟩ : ∃ x, (((c13.setCell ⟨w6.heap.size, 0, none⟩ (.bool abA)).setCell ⟨w6.heap.size, 1, none⟩ (.bool true)).setCell ⟨w6.heap.size, 2, none⟩ (.slice ga gn gc)) = x := ⟨_, rfl⟩
      rw [hcf] at xx oo HCf ⊢
      clear hcf k0 k1 k2 kf0 kf1 kf2 kz xo
      refine hK.out _ _ (HS8.out _ HCf.out) (fun hHeld2 => ?_)
      clear hK K hHeld
      have hHeld := hHeld2
      clear hHeld2
      try simp only [Act.put, List.setIfInBounds_toArray, List.set_cons_zero, List.set_cons_succ]
      refine wpAnyH_done (by kernel_rfl) (NoPanic.normal ?_) _
      clear hHeld HC HV HX
      try (go_wp2_with fail)
      go_meet
      obtain ⟨xa, xc, xv, xr, _, _⟩ := oo.reads
      injection xv with xv1 xv2 xv3
      subst xv1 xv3
      rw [strsV_length] at xr
      rw [strsV_length] at hgn
      subst hgn
      exact ⟨w6.heap.size, _, _, rfl, Lib.hid (by rw [← HD8.out]; exact xx), Lib.hid xr, HCf, Lib.hid hle⟩
    | false =>
      refine wp_region_noPanic ?_
      refine wp_region_held_drew (S := (fun w' => w'.cell? ⟨gp, 0, none⟩ = some (.bool abA) ∧ w'.cell? ⟨gp, 2, none⟩ = some (.slice aA QA.length cA) ∧ w'.cell? ⟨gq, 1, none⟩ = some (.bool false) ∧ w'.cell? ⟨gq, 2, none⟩ = some (.slice aB QB.length cB))) (by kernel_rfl) (HS8.out _ Hd) (fun hHeld => ?_)
      refine wpAnyH_take (i := 0) (v := .pointer (some ⟨gp, 0, none⟩)) rfl (by kernel_rfl) (by kernel_rfl) (by kernel_rfl) (fun _ _ _ h => h) (Or.inl ⟨by kernel_rfl, fun wS hSw => by
        dsimp only at hSw
        obtain ⟨sq0, sq1, sq2, sq3⟩ := hSw
        go_simp⟩) hHeld ?_
      try simp only [Act.put, List.setIfInBounds_toArray, List.set_cons_zero, List.set_cons_succ]
      refine wpAnyH_take (i := 1) (v := .bool abA) rfl (by kernel_rfl) (by kernel_rfl) (by kernel_rfl) (fun _ _ _ h => h) (Or.inl ⟨by kernel_rfl, fun wS hSw => by
        dsimp only at hSw
        obtain ⟨sq0, sq1, sq2, sq3⟩ := hSw
        go_simp⟩) hHeld ?_
      try simp only [Act.put, List.setIfInBounds_toArray, List.set_cons_zero, List.set_cons_succ]
      refine wpAnyH_take (i := 2) (v := .pointer (some ⟨gq, 1, none⟩)) rfl (by kernel_rfl) (by kernel_rfl) (by kernel_rfl) (fun _ _ _ h => h) (Or.inl ⟨by kernel_rfl, fun wS hSw => by
        dsimp only at hSw
        obtain ⟨sq0, sq1, sq2, sq3⟩ := hSw
        go_simp⟩) hHeld ?_
      try simp only [Act.put, List.setIfInBounds_toArray, List.set_cons_zero, List.set_cons_succ]
      refine wpAnyH_take (i := 3) (v := .bool false) rfl (by kernel_rfl) (by kernel_rfl) (by kernel_rfl) (fun _ _ _ h => h) (Or.inl ⟨by kernel_rfl, fun wS hSw => by
        dsimp only at hSw
        obtain ⟨sq0, sq1, sq2, sq3⟩ := hSw
        go_simp⟩) hHeld ?_
      try simp only [Act.put, List.setIfInBounds_toArray, List.set_cons_zero, List.set_cons_succ]
      refine wpAnyH_take (i := 4) (v := .bool false) rfl (by kernel_rfl) (by kernel_rfl) (by kernel_rfl) (fun _ _ _ h => h) (Or.inl ⟨by kernel_rfl, fun wS hSw => by
        dsimp only at hSw
        obtain ⟨sq0, sq1, sq2, sq3⟩ := hSw
        go_simp⟩) hHeld ?_
      try simp only [Act.put, List.setIfInBounds_toArray, List.set_cons_zero, List.set_cons_succ]
      refine wpAnyH_take (i := 5) (v := .pointer (some ⟨gq, 2, none⟩)) rfl (by kernel_rfl) (by kernel_rfl) (by kernel_rfl) (fun _ _ _ h => h) (Or.inl ⟨by kernel_rfl, fun wS hSw => by
        dsimp only at hSw
        obtain ⟨sq0, sq1, sq2, sq3⟩ := hSw
        go_simp⟩) hHeld ?_
      try simp only [Act.put, List.setIfInBounds_toArray, List.set_cons_zero, List.set_cons_succ]
      refine wpAnyH_take (i := 6) (v := .slice aB QB.length cB) rfl (by kernel_rfl) (by kernel_rfl) (by kernel_rfl) (fun _ _ _ h => h) (Or.inl ⟨by kernel_rfl, fun wS hSw => by
        dsimp only at hSw
        obtain ⟨sq0, sq1, sq2, sq3⟩ := hSw
        go_simp⟩) hHeld ?_
      try simp only [Act.put, List.setIfInBounds_toArray, List.set_cons_zero, List.set_cons_succ]
      refine wpAnyH_take (i := 7) (v := .int .i64 (QB.length : Int)) rfl (by kernel_rfl) (by kernel_rfl) (by kernel_rfl) (fun _ _ _ h => h) (Or.inl ⟨by kernel_rfl, fun wS hSw => by
        dsimp only at hSw
        obtain ⟨sq0, sq1, sq2, sq3⟩ := hSw
        go_simp⟩) hHeld ?_
      try simp only [Act.put, List.setIfInBounds_toArray, List.set_cons_zero, List.set_cons_succ]
      refine wpAnyH_take (i := 8) (v := .bool (decide (QB = []))) rfl (by kernel_rfl) (by kernel_rfl) (by kernel_rfl) (fun _ _ _ h => h) (Or.inl ⟨by kernel_rfl, fun wS hSw => by
        dsimp only at hSw
        obtain ⟨sq0, sq1, sq2, sq3⟩ := hSw
        go_simp⟩) hHeld ?_
      try simp only [Act.put, List.setIfInBounds_toArray, List.set_cons_zero, List.set_cons_succ]
      refine wpAnyH_take (i := 9) (v := .bool (decide (QB = []))) rfl (by kernel_rfl) (by kernel_rfl) (by kernel_rfl) (fun _ _ _ h => h) (Or.inl ⟨by kernel_rfl, fun wS hSw => by
        dsimp only at hSw
        obtain ⟨sq0, sq1, sq2, sq3⟩ := hSw
        go_simp⟩) hHeld ?_
      try simp only [Act.put, List.setIfInBounds_toArray, List.set_cons_zero, List.set_cons_succ]
      refine wpAnyH_take (i := 11) (v := .pointer (some ⟨gp, 2, none⟩)) rfl (by kernel_rfl) (by kernel_rfl) (by kernel_rfl) (fun _ _ _ h => h) (Or.inl ⟨by kernel_rfl, fun wS hSw => by
        dsimp only at hSw
        obtain ⟨sq0, sq1, sq2, sq3⟩ := hSw
        go_simp⟩) hHeld ?_
      try simp only [Act.put, List.setIfInBounds_toArray, List.set_cons_zero, List.set_cons_succ]
      refine wpAnyH_take (i := 12) (v := .slice aA QA.length cA) rfl (by kernel_rfl) (by kernel_rfl) (by kernel_rfl) (fun _ _ _ h => h) (Or.inl ⟨by kernel_rfl, fun wS hSw => by
        dsimp only at hSw
        obtain ⟨sq0, sq1, sq2, sq3⟩ := hSw
        go_simp⟩) hHeld ?_
      try simp only [Act.put, List.setIfInBounds_toArray, List.set_cons_zero, List.set_cons_succ]
      refine wpAnyH_take (i := 14) (v := .pointer (some ⟨gq, 2, none⟩)) rfl (by kernel_rfl) (by kernel_rfl) (by kernel_rfl) (fun _ _ _ h => h) (Or.inl ⟨by kernel_rfl, fun wS hSw => by
        dsimp only at hSw
        obtain ⟨sq0, sq1, sq2, sq3⟩ := hSw
        go_simp⟩) hHeld ?_
      try simp only [Act.put, List.setIfInBounds_toArray, List.set_cons_zero, List.set_cons_succ]
      refine wpAnyH_take (i := 15) (v := .slice aB QB.length cB) rfl (by kernel_rfl) (by kernel_rfl) (by kernel_rfl) (fun _ _ _ h => h) (Or.inl ⟨by kernel_rfl, fun wS hSw => by
        dsimp only at hSw
        obtain ⟨sq0, sq1, sq2, sq3⟩ := hSw
        go_simp⟩) hHeld ?_
      try simp only [Act.put, List.setIfInBounds_toArray, List.set_cons_zero, List.set_cons_succ]
      have HC := Lib.hid Hd
      refine wpAnyH_ready (rs := [10, 18]) (by kernel_rfl) (by simp) ?_
      refine AllReadyH.cons rfl (fun K hK => ?_) ?_
      · skip
        go_simp
        change K _ (w6.drew.alloc (.cells #[] 9))
        have b := below_box w6.drew (.cells #[] 9)
        have o1 := OwnsV.new (B := w6.heap.size) (w := w6.drew) (e := 9) #[] HC.out.size (by decide)
        have HC2 : Hid (Below w6.heap.size w6 (w6.drew.alloc (.cells #[] 9))) := Lib.hid (HC.out.trans (b.mono HC.out.size))
        obtain ⟨c14, hc14⟩ : ∃ x, w6.drew.alloc (.cells #[] 9) = x := ⟨_, rfl⟩
        rw [hc14] at b o1 HC2 ⊢
        have HV : Hid (OwnsV w6.heap.size c14 9 (.slice (some ⟨w6.heap.size, 0, none⟩) 0 0) (strsV [])) := Lib.hid o1
        clear b o1 hc14
        refine hK.out _ _ (HS8.out _ HC2.out) (fun hHeld2 => ?_)
        clear hK K hHeld
        have hHeld := hHeld2
        clear hHeld2
        try simp only [Act.put, List.setIfInBounds_toArray, List.set_cons_zero, List.set_cons_succ]
        clear HC
        have HC := HC2
        clear HC2
        refine wpAnyH_ready (rs := [13, 18]) (by kernel_rfl) (by simp) ?_
        refine AllReadyH.cons rfl (fun K hK => ?_) ?_
        · skip
          refine step_app (W := w6) (by kernel_rfl) _ _ rfl (.slice (some ⟨w6.heap.size, 0, none⟩) 0 0) [] QA (by have := HQA.out; first | (simp; done) | omega) (by have := HQA.out; have := HQB.out; omega) rfl HC.out HV.out aA cA (HRA6.out.below HC.out) rfl (fun vF c15 o2 b2 g2 => ?_)
          have HV2 : Hid (OwnsV w6.heap.size c15 9 vF (strsV QA)) := Lib.hid o2
          have HC2 := Lib.hid b2
          clear o2 b2 g2
          refine hK.out _ _ (HS8.out _ HC2.out) (fun hHeld2 => ?_)
          clear hK K hHeld
          have hHeld := hHeld2
          clear hHeld2
          try simp only [Act.put, List.setIfInBounds_toArray, List.set_cons_zero, List.set_cons_succ]
          clear HC HV
          have HC := HC2
          have HV := HV2
          clear HC2 HV2
          refine wpAnyH_ready (rs := [16, 18]) (by kernel_rfl) (by simp) ?_
          refine AllReadyH.cons rfl (fun K hK => ?_) ?_
          · skip
            refine step_app (W := w6) (by kernel_rfl) _ _ rfl vF QA QB (by have := HQA.out; first | (simp; done) | omega) (by have := HQA.out; have := HQB.out; omega) rfl HC.out HV.out aB cB (HRB6.out.below HC.out) rfl (fun vG c16 o2 b2 g2 => ?_)
            have HV2 : Hid (OwnsV w6.heap.size c16 9 vG (strsV (QA ++ QB))) := Lib.hid o2
            have HC2 := Lib.hid b2
            clear o2 b2 g2
            refine hK.out _ _ (HS8.out _ HC2.out) (fun hHeld2 => ?_)
            clear hK K hHeld
            have hHeld := hHeld2
            clear hHeld2
            try simp only [Act.put, List.setIfInBounds_toArray, List.set_cons_zero, List.set_cons_succ]
            clear HC HV
            have HC := HC2
            have HV := HV2
            clear HC2 HV2
            obtain ⟨ga, gc, hgv, hgr, _, _⟩ := HV.out.reads
            obtain ⟨gn, hgn⟩ : ∃ n, (strsV (QA ++ QB)).length = n := ⟨_, rfl⟩
            rw [hgn] at hgv
            subst hgv
            clear hgr
            refine wpAnyH_take (i := 17) (v := .agg #[.bool abA, .bool (decide (QB = [])), .slice ga gn gc]) rfl (by kernel_rfl) (by kernel_rfl) (by kernel_rfl) (fun _ _ _ h => h) (Or.inl ⟨by kernel_rfl, fun wS hSw => by
              dsimp only at hSw
              obtain ⟨sq0, sq1, sq2, sq3⟩ := hSw
              go_simp⟩) hHeld ?_
            try simp only [Act.put, List.setIfInBounds_toArray, List.set_cons_zero, List.set_cons_succ]
            refine wpAnyH_ready (rs := [18]) (by kernel_rfl) (by simp) ?_
            refine AllReadyH.cons rfl (fun K hK => ?_) AllReadyH.nil
            go_simp
            change K _ (c16.alloc (.cells #[.bool false, .bool false, .slice none 0 0] 31))
            have b := below_box c16 (.cells #[.bool false, .bool false, .slice none 0 0] 31)
            have x1 := heap_alloc_new c16 (.cells #[.bool false, .bool false, .slice none 0 0] 31)
            have HC2 : Hid (Below w6.heap.size w6 (c16.alloc (.cells #[.bool false, .bool false, .slice none 0 0] 31))) := Lib.hid (HC.out.trans (b.mono HC.out.size))
            have o1 := HV.out.below b
            obtain ⟨c17, hc17⟩ : ∃ x, c16.alloc (.cells #[.bool false, .bool false, .slice none 0 0] 31) = x := ⟨_, rfl⟩
            rw [hc17] at b x1 HC2 o1 ⊢
            have hle : w6.heap.size ≤ c16.heap.size := HC.out.size
            have HX : Hid (c17.heap[c16.heap.size]? = some (.cells #[.bool false, .bool false, .slice none 0 0] 31 (0, 0))) := Lib.hid x1
            clear x1
            clear HV
            have HV := Lib.hid o1
            clear o1
            clear b hc17
            refine hK.out _ _ (HS8.out _ HC2.out) (fun hHeld2 => ?_)
            clear hK K hHeld
            have hHeld := hHeld2
            clear hHeld2
            try simp only [Act.put, List.setIfInBounds_toArray, List.set_cons_zero, List.set_cons_succ]
            clear HC
            have HC := HC2
            clear HC2
            have hk3 := kept3_of HX.out
            obtain ⟨k0, k1, k2, kf0, kf1, kf2, kz⟩ := hk3
            obtain ⟨xx, xo⟩ := over3 HX.out (.bool abA) (.bool (decide (QB = []))) (.slice ga gn gc)
            have oo := xo (by decide) HV.out
            have HCf : Hid (Below w6.heap.size w6 (((c17.setCell ⟨c16.heap.size, 0, none⟩ (.bool abA)).setCell ⟨c16.heap.size, 1, none⟩ (.bool (decide (QB = [])))).setCell ⟨c16.heap.size, 2, none⟩ (.slice ga gn gc))) := Lib.hid (((HC.out.setCell hle _).setCell hle _).setCell hle _)
            refine wpAnyH_ready (rs := [19]) (by kernel_rfl) (by simp) ?_
            refine AllReadyH.cons rfl (fun K hK => ?_) AllReadyH.nil
            go_simp
            obtain ⟨cf, hcf⟩ : ∃ x, (((c17.setCell ⟨c16.heap.size, 0, none⟩ (.bool abA)).setCell ⟨c16.heap.size, 1, none⟩ (.bool (decide (QB = [])))).setCell ⟨c16.heap.size, 2, none⟩ (.slice ga gn gc)) = x := ⟨_, rfl⟩
            rw [hcf] at xx oo HCf ⊢
            clear hcf k0 k1 k2 kf0 kf1 kf2 kz xo
            refine hK.out _ _ (HS8.out _ HCf.out) (fun hHeld2 => ?_)
            clear hK K hHeld
            have hHeld := hHeld2
            clear hHeld2
            try simp only [Act.put, List.setIfInBounds_toArray, List.set_cons_zero, List.set_cons_succ]
            refine wpAnyH_done (by kernel_rfl) (NoPanic.normal ?_) _
            clear hHeld HC HV HX
            try (go_wp2_with fail)
            go_meet
            obtain ⟨xa, xc, xv, xr, _, _⟩ := oo.reads
            injection xv with xv1 xv2 xv3
            subst xv1 xv3
            rw [strsV_length] at xr
            rw [strsV_length] at hgn
            subst hgn
            exact ⟨c16.heap.size, _, _, rfl, Lib.hid (by rw [← HD8.out]; exact xx), Lib.hid xr, HCf, Lib.hid hle⟩
          refine AllReadyH.cons rfl (fun K hK => ?_) AllReadyH.nil
          go_simp
          change K _ (c15.alloc (.cells #[.bool false, .bool false, .slice none 0 0] 31))
          have b := below_box c15 (.cells #[.bool false, .bool false, .slice none 0 0] 31)
          have x1 := heap_alloc_new c15 (.cells #[.bool false, .bool false, .slice none 0 0] 31)
          have HC2 : Hid (Below w6.heap.size w6 (c15.alloc (.cells #[.bool false, .bool false, .slice none 0 0] 31))) := Lib.hid (HC.out.trans (b.mono HC.out.size))
          have o1 := HV.out.below b
          obtain ⟨c18, hc18⟩ : ∃ x, c15.alloc (.cells #[.bool false, .bool false, .slice none 0 0] 31) = x := ⟨_, rfl⟩
          rw [hc18] at b x1 HC2 o1 ⊢
          have hle : w6.heap.size ≤ c15.heap.size := HC.out.size
          have HX : Hid (c18.heap[c15.heap.size]? = some (.cells #[.bool false, .bool false, .slice none 0 0] 31 (0, 0))) := Lib.hid x1
          clear x1
          clear HV
          have HV := Lib.hid o1
          clear o1
          clear b hc18
          refine hK.out _ _ (HS8.out _ HC2.out) (fun hHeld2 => ?_)
          clear hK K hHeld
          have hHeld := hHeld2
          clear hHeld2
          try simp only [Act.put, List.setIfInBounds_toArray, List.set_cons_zero, List.set_cons_succ]
          clear HC
          have HC := HC2
          clear HC2
          refine wpAnyH_ready (rs := [16]) (by kernel_rfl) (by simp) ?_
          refine AllReadyH.cons rfl (fun K hK => ?_) AllReadyH.nil
          refine step_app (W := w6) (by kernel_rfl) _ _ rfl vF QA QB (by have := HQA.out; first | (simp; done) | omega) (by have := HQA.out; have := HQB.out; omega) rfl HC.out HV.out aB cB (HRB6.out.below HC.out) rfl (fun vG c19 o2 b2 g2 => ?_)
          have HV2 : Hid (OwnsV w6.heap.size c19 9 vG (strsV (QA ++ QB))) := Lib.hid o2
          have HC2 := Lib.hid b2
          have x1 := box_grown HV.out HX.out (by decide) g2
          clear HX
          have HX := Lib.hid x1
          clear x1
          clear o2 b2 g2
          refine hK.out _ _ (HS8.out _ HC2.out) (fun hHeld2 => ?_)
          clear hK K hHeld
          have hHeld := hHeld2
          clear hHeld2
          try simp only [Act.put, List.setIfInBounds_toArray, List.set_cons_zero, List.set_cons_succ]
          clear HC HV
          have HC := HC2
          have HV := HV2
          clear HC2 HV2
          obtain ⟨ga, gc, hgv, hgr, _, _⟩ := HV.out.reads
          obtain ⟨gn, hgn⟩ : ∃ n, (strsV (QA ++ QB)).length = n := ⟨_, rfl⟩
          rw [hgn] at hgv
          subst hgv
          clear hgr
          refine wpAnyH_take (i := 17) (v := .agg #[.bool abA, .bool (decide (QB = [])), .slice ga gn gc]) rfl (by kernel_rfl) (by kernel_rfl) (by kernel_rfl) (fun _ _ _ h => h) (Or.inl ⟨by kernel_rfl, fun wS hSw => by
            dsimp only at hSw
            obtain ⟨sq0, sq1, sq2, sq3⟩ := hSw
            go_simp⟩) hHeld ?_
          try simp only [Act.put, List.setIfInBounds_toArray, List.set_cons_zero, List.set_cons_succ]
          have hk3 := kept3_of HX.out
          obtain ⟨k0, k1, k2, kf0, kf1, kf2, kz⟩ := hk3
          obtain ⟨xx, xo⟩ := over3 HX.out (.bool abA) (.bool (decide (QB = []))) (.slice ga gn gc)
          have oo := xo (by decide) HV.out
          have HCf : Hid (Below w6.heap.size w6 (((c19.setCell ⟨c15.heap.size, 0, none⟩ (.bool abA)).setCell ⟨c15.heap.size, 1, none⟩ (.bool (decide (QB = [])))).setCell ⟨c15.heap.size, 2, none⟩ (.slice ga gn gc))) := Lib.hid (((HC.out.setCell hle _).setCell hle _).setCell hle _)
          refine wpAnyH_ready (rs := [19]) (by kernel_rfl) (by simp) ?_
          refine AllReadyH.cons rfl (fun K hK => ?_) AllReadyH.nil
          go_simp
          obtain ⟨cf, hcf⟩ : ∃ x, (((c19.setCell ⟨c15.heap.size, 0, none⟩ (.bool abA)).setCell ⟨c15.heap.size, 1, none⟩ (.bool (decide (QB = [])))).setCell ⟨c15.heap.size, 2, none⟩ (.slice ga gn gc)) = x := ⟨_, rfl⟩
          rw [hcf] at xx oo HCf ⊢
          clear hcf k0 k1 k2 kf0 kf1 kf2 kz xo
          refine hK.out _ _ (HS8.out _ HCf.out) (fun hHeld2 => ?_)
          clear hK K hHeld
          have hHeld := hHeld2
          clear hHeld2
          try simp only [Act.put, List.setIfInBounds_toArray, List.set_cons_zero, List.set_cons_succ]
          refine wpAnyH_done (by kernel_rfl) (NoPanic.normal ?_) _
          clear hHeld HC HV HX
          try (go_wp2_with fail)
          go_meet
          obtain ⟨xa, xc, xv, xr, _, _⟩ := oo.reads
          injection xv with xv1 xv2 xv3
          subst xv1 xv3
          rw [strsV_length] at xr
          rw [strsV_length] at hgn
          subst hgn
          exact ⟨c15.heap.size, _, _, rfl, Lib.hid (by rw [← HD8.out]; exact xx), Lib.hid xr, HCf, Lib.hid hle⟩
        refine AllReadyH.cons rfl (fun K hK => ?_) AllReadyH.nil
        go_simp
        change K _ (c14.alloc (.cells #[.bool false, .bool false, .slice none 0 0] 31))
        have b := below_box c14 (.cells #[.bool false, .bool false, .slice none 0 0] 31)
        have x1 := heap_alloc_new c14 (.cells #[.bool false, .bool false, .slice none 0 0] 31)
        have HC2 : Hid (Below w6.heap.size w6 (c14.alloc (.cells #[.bool false, .bool false, .slice none 0 0] 31))) := Lib.hid (HC.out.trans (b.mono HC.out.size))
        have o1 := HV.out.below b
        obtain ⟨c20, hc20⟩ : ∃ x, c14.alloc (.cells #[.bool false, .bool false, .slice none 0 0] 31) = x := ⟨_, rfl⟩
        rw [hc20] at b x1 HC2 o1 ⊢
        have hle : w6.heap.size ≤ c14.heap.size := HC.out.size
        have HX : Hid (c20.heap[c14.heap.size]? = some (.cells #[.bool false, .bool false, .slice none 0 0] 31 (0, 0))) := Lib.hid x1
        clear x1
        clear HV
        have HV := Lib.hid o1
        clear o1
        clear b hc20
        refine hK.out _ _ (HS8.out _ HC2.out) (fun hHeld2 => ?_)
        clear hK K hHeld
        have hHeld := hHeld2
        clear hHeld2
        try simp only [Act.put, List.setIfInBounds_toArray, List.set_cons_zero, List.set_cons_succ]
        clear HC
        have HC := HC2
        clear HC2
        refine wpAnyH_ready (rs := [13]) (by kernel_rfl) (by simp) ?_
        refine AllReadyH.cons rfl (fun K hK => ?_) AllReadyH.nil
        refine step_app (W := w6) (by kernel_rfl) _ _ rfl (.slice (some ⟨w6.heap.size, 0, none⟩) 0 0) [] QA (by have := HQA.out; first | (simp; done) | omega) (by have := HQA.out; have := HQB.out; omega) rfl HC.out HV.out aA cA (HRA6.out.below HC.out) rfl (fun vF c21 o2 b2 g2 => ?_)
        have HV2 : Hid (OwnsV w6.heap.size c21 9 vF (strsV QA)) := Lib.hid o2
        have HC2 := Lib.hid b2
        have x1 := box_grown HV.out HX.out (by decide) g2
        clear HX
        have HX := Lib.hid x1
        clear x1
        clear o2 b2 g2
        refine hK.out _ _ (HS8.out _ HC2.out) (fun hHeld2 => ?_)
        clear hK K hHeld
        have hHeld := hHeld2
        clear hHeld2
        try simp only [Act.put, List.setIfInBounds_toArray, List.set_cons_zero, List.set_cons_succ]
        clear HC HV
        have HC := HC2
        have HV := HV2
        clear HC2 HV2
        refine wpAnyH_ready (rs := [16]) (by kernel_rfl) (by simp) ?_
        refine AllReadyH.cons rfl (fun K hK => ?_) AllReadyH.nil
        refine step_app (W := w6) (by kernel_rfl) _ _ rfl vF QA QB (by have := HQA.out; first | (simp; done) | omega) (by have := HQA.out; have := HQB.out; omega) rfl HC.out HV.out aB cB (HRB6.out.below HC.out) rfl (fun vG c22 o2 b2 g2 => ?_)
        have HV2 : Hid (OwnsV w6.heap.size c22 9 vG (strsV (QA ++ QB))) := Lib.hid o2
        have HC2 := Lib.hid b2
        have x1 := box_grown HV.out HX.out (by decide) g2
        clear HX
        have HX := Lib.hid x1
        clear x1
        clear o2 b2 g2
        refine hK.out _ _ (HS8.out _ HC2.out) (fun hHeld2 => ?_)
        clear hK K hHeld
        have hHeld := hHeld2
        clear hHeld2
        try simp only [Act.put, List.setIfInBounds_toArray, List.set_cons_zero, List.set_cons_succ]
        clear HC HV
        have HC := HC2
        have HV := HV2
        clear HC2 HV2
        obtain ⟨ga, gc, hgv, hgr, _, _⟩ := HV.out.reads
        obtain ⟨gn, hgn⟩ : ∃ n, (strsV (QA ++ QB)).length = n := ⟨_, rfl⟩
        rw [hgn] at hgv
        subst hgv
        clear hgr
        refine wpAnyH_take (i := 17) (v := .agg #[.bool abA, .bool (decide (QB = [])), .slice ga gn gc]) rfl (by kernel_rfl) (by kernel_rfl) (by kernel_rfl) (fun _ _ _ h => h) (Or.inl ⟨by kernel_rfl, fun wS hSw => by
          dsimp only at hSw
          obtain ⟨sq0, sq1, sq2, sq3⟩ := hSw
          go_simp⟩) hHeld ?_
        try simp only [Act.put, List.setIfInBounds_toArray, List.set_cons_zero, List.set_cons_succ]
        have hk3 := kept3_of HX.out
        obtain ⟨k0, k1, k2, kf0, kf1, kf2, kz⟩ := hk3
        obtain ⟨xx, xo⟩ := over3 HX.out (.bool abA) (.bool (decide (QB = []))) (.slice ga gn gc)
        have oo := xo (by decide) HV.out
        have HCf : Hid (Below w6.heap.size w6 (((c22.setCell ⟨c14.heap.size, 0, none⟩ (.bool abA)).setCell ⟨c14.heap.size, 1, none⟩ (.bool (decide (QB = [])))).setCell ⟨c14.heap.size, 2, none⟩ (.slice ga gn gc))) := Lib.hid (((HC.out.setCell hle _).setCell hle _).setCell hle _)
        refine wpAnyH_ready (rs := [19]) (by kernel_rfl) (by simp) ?_
        refine AllReadyH.cons rfl (fun K hK => ?_) AllReadyH.nil
        go_simp
        obtain ⟨cf, hcf⟩ : ∃ x, (((c22.setCell ⟨c14.heap.size, 0, none⟩ (.bool abA)).setCell ⟨c14.heap.size, 1, none⟩ (.bool (decide (QB = [])))).setCell ⟨c14.heap.size, 2, none⟩ (.slice ga gn gc)) = x := ⟨_, rfl⟩
        rw [hcf] at xx oo HCf ⊢
        clear hcf k0 k1 k2 kf0 kf1 kf2 kz xo
        refine hK.out _ _ (HS8.out _ HCf.out) (fun hHeld2 => ?_)
        clear hK K hHeld
        have hHeld := hHeld2
        clear hHeld2
        try simp only [Act.put, List.setIfInBounds_toArray, List.set_cons_zero, List.set_cons_succ]
        refine wpAnyH_done (by kernel_rfl) (NoPanic.normal ?_) _
        clear hHeld HC HV HX
        try (go_wp2_with fail)
        go_meet
        obtain ⟨xa, xc, xv, xr, _, _⟩ := oo.reads
        injection xv with xv1 xv2 xv3
        subst xv1 xv3
        rw [strsV_length] at xr
        rw [strsV_length] at hgn
        subst hgn
        exact ⟨c14.heap.size, _, _, rfl, Lib.hid (by rw [← HD8.out]; exact xx), Lib.hid xr, HCf, Lib.hid hle⟩
      refine AllReadyH.cons rfl (fun K hK => ?_) AllReadyH.nil
      go_simp
      change K _ (w6.drew.alloc (.cells #[.bool false, .bool false, .slice none 0 0] 31))
      have b := below_box w6.drew (.cells #[.bool false, .bool false, .slice none 0 0] 31)
      have x1 := heap_alloc_new w6.drew (.cells #[.bool false, .bool false, .slice none 0 0] 31)
      have HC2 : Hid (Below w6.heap.size w6 (w6.drew.alloc (.cells #[.bool false, .bool false, .slice none 0 0] 31))) := Lib.hid (HC.out.trans (b.mono HC.out.size))
      obtain ⟨c23, hc23⟩ : ∃ x, w6.drew.alloc (.cells #[.bool false, .bool false, .slice none 0 0] 31) = x := ⟨_, rfl⟩
      rw [hc23] at b x1 HC2 ⊢
      have hle : w6.heap.size ≤ w6.heap.size := HC.out.size
      have HX : Hid (c23.heap[w6.heap.size]? = some (.cells #[.bool false, .bool false, .slice none 0 0] 31 (0, 0))) := Lib.hid x1
      clear x1
      clear b hc23
      refine hK.out _ _ (HS8.out _ HC2.out) (fun hHeld2 => ?_)
      clear hK K hHeld
      have hHeld := hHeld2
      clear hHeld2
      try simp only [Act.put, List.setIfInBounds_toArray, List.set_cons_zero, List.set_cons_succ]
      clear HC
      have HC := HC2
      clear HC2
      refine wpAnyH_ready (rs := [10]) (by kernel_rfl) (by simp) ?_
      refine AllReadyH.cons rfl (fun K hK => ?_) AllReadyH.nil
      go_simp
      change K _ (c23.alloc (.cells #[] 9))
      have b := below_box c23 (.cells #[] 9)
      have o1 := OwnsV.new (B := w6.heap.size) (w := c23) (e := 9) #[] HC.out.size (by decide)
      have HC2 : Hid (Below w6.heap.size w6 (c23.alloc (.cells #[] 9))) := Lib.hid (HC.out.trans (b.mono HC.out.size))
      have x1 := (b.block w6.heap.size (Array.getElem?_eq_some_iff.1 HX.out).1).trans HX.out
      obtain ⟨c24, hc24⟩ : ∃ x, c23.alloc (.cells #[] 9) = x := ⟨_, rfl⟩
      rw [hc24] at b o1 HC2 x1 ⊢
      have HV : Hid (OwnsV w6.heap.size c24 9 (.slice (some ⟨c23.heap.size, 0, none⟩) 0 0) (strsV [])) := Lib.hid o1
      clear HX
      have HX := Lib.hid x1
      clear x1
      clear b o1 hc24
      refine hK.out _ _ (HS8.out _ HC2.out) (fun hHeld2 => ?_)
      clear hK K hHeld
      have hHeld := hHeld2
      clear hHeld2
      try simp only [Act.put, List.setIfInBounds_toArray, List.set_cons_zero, List.set_cons_succ]
      clear HC
      have HC := HC2
      clear HC2
      refine wpAnyH_ready (rs := [13]) (by kernel_rfl) (by simp) ?_
      refine AllReadyH.cons rfl (fun K hK => ?_) AllReadyH.nil
      refine step_app (W := w6) (by kernel_rfl) _ _ rfl (.slice (some ⟨c23.heap.size, 0, none⟩) 0 0) [] QA (by have := HQA.out; first | (simp; done) | omega) (by have := HQA.out; have := HQB.out; omega) rfl HC.out HV.out aA cA (HRA6.out.below HC.out) rfl (fun vF c25 o2 b2 g2 => ?_)
      have HV2 : Hid (OwnsV w6.heap.size c25 9 vF (strsV QA)) := Lib.hid o2
      have HC2 := Lib.hid b2
      have x1 := box_grown HV.out HX.out (by decide) g2
      clear HX
      have HX := Lib.hid x1
      clear x1
      clear o2 b2 g2
      refine hK.out _ _ (HS8.out _ HC2.out) (fun hHeld2 => ?_)
      clear hK K hHeld
      have hHeld := hHeld2
      clear hHeld2
      try simp only [Act.put, List.setIfInBounds_toArray, List.set_cons_zero, List.set_cons_succ]
      clear HC HV
      have HC := HC2
      have HV := HV2
      clear HC2 HV2
      refine wpAnyH_ready (rs := [16]) (by kernel_rfl) (by simp) ?_
      refine AllReadyH.cons rfl (fun K hK => ?_) AllReadyH.nil
      refine step_app (W := w6) (by kernel_rfl) _ _ rfl vF QA QB (by have := HQA.out; first | (simp; done) | omega) (by have := HQA.out; have := HQB.out; omega) rfl HC.out HV.out aB cB (HRB6.out.below HC.out) rfl (fun vG c26 o2 b2 g2 => ?_)
      have HV2 : Hid (OwnsV w6.heap.size c26 9 vG (strsV (QA ++ QB))) := Lib.hid o2
      have HC2 := Lib.hid b2
      have x1 := box_grown HV.out HX.out (by decide) g2
      clear HX
      have HX := Lib.hid x1
      clear x1
      clear o2 b2 g2
      refine hK.out _ _ (HS8.out _ HC2.out) (fun hHeld2 => ?_)
      clear hK K hHeld
      have hHeld := hHeld2
      clear hHeld2
      try simp only [Act.put, List.setIfInBounds_toArray, List.set_cons_zero, List.set_cons_succ]
      clear HC HV
      have HC := HC2
      have HV := HV2
      clear HC2 HV2
      obtain ⟨ga, gc, hgv, hgr, _, _⟩ := HV.out.reads
      obtain ⟨gn, hgn⟩ : ∃ n, (strsV (QA ++ QB)).length = n := ⟨_, rfl⟩
      rw [hgn] at hgv
      subst hgv
      clear hgr
      refine wpAnyH_take (i := 17) (v := .agg #[.bool abA, .bool (decide (QB = [])), .slice ga gn gc]) rfl (by kernel_rfl) (by kernel_rfl) (by kernel_rfl) (fun _ _ _ h => h) (Or.inl ⟨by kernel_rfl, fun wS hSw => by
        dsimp only at hSw
        obtain ⟨sq0, sq1, sq2, sq3⟩ := hSw
        go_simp⟩) hHeld ?_
      try simp only [Act.put, List.setIfInBounds_toArray, List.set_cons_zero, List.set_cons_succ]
      have hk3 := kept3_of HX.out
      obtain ⟨k0, k1, k2, kf0, kf1, kf2, kz⟩ := hk3
      obtain ⟨xx, xo⟩ := over3 HX.out (.bool abA) (.bool (decide (QB = []))) (.slice ga gn gc)
      have oo := xo (by decide) HV.out
      have HCf : Hid (Below w6.heap.size w6 (((c26.setCell ⟨w6.heap.size, 0, none⟩ (.bool abA)).setCell ⟨w6.heap.size, 1, none⟩ (.bool (decide (QB = [])))).setCell ⟨w6.heap.size, 2, none⟩ (.slice ga gn gc))) := Lib.hid (((HC.out.setCell hle _).setCell hle _).setCell hle _)
      refine wpAnyH_ready (rs := [19]) (by kernel_rfl) (by simp) ?_
      refine AllReadyH.cons rfl (fun K hK => ?_) AllReadyH.nil
      go_simp
      obtain ⟨cf, hcf⟩ : ∃ x, (((c26.setCell ⟨w6.heap.size, 0, none⟩ (.bool abA)).setCell ⟨w6.heap.size, 1, none⟩ (.bool (decide (QB = [])))).setCell ⟨w6.heap.size, 2, none⟩ (.slice ga gn gc)) = x := ⟨_, rfl⟩
      rw [hcf] at xx oo HCf ⊢
      clear hcf k0 k1 k2 kf0 kf1 kf2 kz xo
      refine hK.out _ _ (HS8.out _ HCf.out) (fun hHeld2 => ?_)
      clear hK K hHeld
      have hHeld := hHeld2
      clear hHeld2
      try simp only [Act.put, List.setIfInBounds_toArray, List.set_cons_zero, List.set_cons_succ]
      refine wpAnyH_done (by kernel_rfl) (NoPanic.normal ?_) _
      clear hHeld HC HV HX
      try (go_wp2_with fail)
      go_meet
      obtain ⟨xa, xc, xv, xr, _, _⟩ := oo.reads
      injection xv with xv1 xv2 xv3
      subst xv1 xv3
      rw [strsV_length] at xr
      rw [strsV_length] at hgn
      subst hgn
      exact ⟨w6.heap.size, _, _, rfl, Lib.hid (by rw [← HD8.out]; exact xx), Lib.hid xr, HCf, Lib.hid hle⟩
  case rest =>
    obtain ⟨p10, rb, cb, rfl, HW, HWR, HC6, HLE⟩ := hcut
    have HBc : Hid (Below w.heap.size w wc) := Lib.hid (HBF.out.trans (HC6.out.mono HBF.out.size))
    have KQc := HKQ6.out.below HC6.out
    obtain ⟨q0, q1, q2, _, _, _, qz⟩ := KQc
    obtain ⟨hja, hjd, hjq⟩ := HJE.out
    clear HJE HS8 Hd HJN hdm
    cases abB with
    | true =>
      have e1 : JA = true := by rw [← hja]; rfl
      have e2 : JD = diB := by rw [← hjd]; rfl
      have e3 : JQ = QB := by rw [← hjq]; rfl
      subst e1 e2 e3
      clear hja hjd hjq
      go_wp2_with fail
      refine (told_is _ _ _ _ _ wc).mono ?_
      rintro e w7 ⟨rfl, b⟩
      have x7 := (b.block p10 (Array.getElem?_eq_some_iff.1 HW.out).1).trans HW.out
      have HC7 : Below w6.heap.size w6 w7 := HC6.out.trans (b.mono HC6.out.size)
      obtain ⟨k0, k1, k2, kf0, kf1, kf2, kz⟩ := kept3_of x7
      obtain ⟨xx, _⟩ := over3 x7 (.bool true) (.bool JD) (.slice aB JQ.length cB)
      have HCz : Below w6.heap.size w6 (((w7.setCell ⟨p10, 0, none⟩ (.bool true)).setCell ⟨p10, 1, none⟩ (.bool JD)).setCell ⟨p10, 2, none⟩ (.slice aB JQ.length cB)) := ((HC7.setCell HLE.out _).setCell HLE.out _).setCell HLE.out _
      go_wp2_with fail
      obtain ⟨wz, hwz⟩ : ∃ x, ((w7.setCell ⟨p10, 0, none⟩ (.bool true)).setCell ⟨p10, 1, none⟩ (.bool JD)).setCell ⟨p10, 2, none⟩ (.slice aB JQ.length cB) = x := ⟨_, rfl⟩
      rw [hwz] at xx HCz ⊢
      clear hwz k0 k1 k2 kf0 kf1 kf2 kz q0 q1 q2 qz b x7 HC7
      have KWz := Lib.hid (kept3_of xx)
      have RWz := Lib.hid (HRB6.out.below HCz)
      clear xx HW HWR
      have KPz := HKP6.out.below HCz
      have KQz := HKQ6.out.below HCz
      have KJz := KJ.out.below HCz
      have RJz := Lib.hid (HJR.out.below HCz)
      have HBz : Hid (Below w.heap.size w wz) := Lib.hid (HBF.out.trans (HCz.mono HBF.out.size))
      obtain ⟨j0, j1, j2, _, _, _, jz⟩ := KJz
      obtain ⟨k0, k1, k2, _, _, _, kz⟩ := KWz.out
      have hj0 := cell_regrown j0
      have hj1 := cell_regrown j1
      have hj2 := cell_regrown j2
      have hk0 := cell_regrown k0
      have hk1 := cell_regrown k1
      have hk2 := cell_regrown k2
      refine wp_region_quiet_below (by kernel_rfl) (by kernel_rfl) ?_
      repeat (go_big_quiet_step (first | (go_at_call 8; exact Calls.regrown_of (told_is _ _ _ _ _ _)) | (go_at_call 9; exact Calls.regrown_of (same_is _ _ _ _ _ _ _ _ (RJz.out.below (below_regrown _ _ _)) (RWz.out.below (below_regrown _ _ _)) (by have := HJL.out; omega)))))
      refine wpQuiet_nil (regrown_name fun w20 b => ?_)
      have HC20 : Below w6.heap.size w6 w20 := HCz.trans (b.mono HCz.size)
      clear hj0 hj1 hj2 hk0 hk1 hk2 j0 j1 j2 k0 k1 k2 jz kz b KWz RWz RJz KPz KQz
      have HB20 : Hid (Below w.heap.size w w20) := Lib.hid (HBF.out.trans (HC20.mono HBF.out.size))
      obtain ⟨p0, p1, p2, _, _, _, pz⟩ := HKP6.out.below HC20
      obtain ⟨q0, q1, q2, _, _, _, qz⟩ := HKQ6.out.below HC20
      obtain ⟨j0, j1, j2, _, _, _, jz⟩ := KJ.out.below HC20
      have bl := below_box w20 (.cells #[.bool abA, .bool diA, .slice aA QA.length cA, .bool true, .bool JD, .slice aB JQ.length cB, .bool true, .bool JD, .slice ja JQ.length jc] 25)
      have nl := heap_alloc_new w20 (.cells #[.bool abA, .bool diA, .slice aA QA.length cA, .bool true, .bool JD, .slice aB JQ.length cB, .bool true, .bool JD, .slice ja JQ.length jc] 25)
      obtain ⟨w21, hw21⟩ : ∃ x, w20.alloc (.cells #[.bool abA, .bool diA, .slice aA QA.length cA, .bool true, .bool JD, .slice aB JQ.length cB, .bool true, .bool JD, .slice ja JQ.length jc] 25) = x := ⟨_, rfl⟩
      rw [hw21] at bl nl
      have HC21 : Below w6.heap.size w6 w21 := HC20.trans (bl.mono HC20.size)
      have HB21 : Hid (Below w.heap.size w w21) := Lib.hid (HBF.out.trans (HC21.mono HBF.out.size))
      have HR210 := Lib.hid (HRA6.out.below HC21)
      have HR211 := Lib.hid (HRB6.out.below HC21)
      have HR212 := Lib.hid (HJR.out.below HC21)
      have HNL := Lib.hid nl
      clear bl nl HC20 HB20
      go_wp2_with fail
      clear p0 p1 p2 q0 q1 q2 j0 j1 j2 pz qz jz hw21
      obtain ⟨gl, hgl⟩ : ∃ g, w20.heap.size = g := ⟨_, rfl⟩
      rw [hgl] at HNL ⊢
      clear hgl
      go_loopw [13, 14, 15, 71, 87] (fun _ _ _ i _ wr => ∃ k : Nat, k ≤ 3 ∧ i = .int .i64 (k : Int) ∧ Hid (Below w21.heap.size w21 wr)) (fun _ _ _ i _ _ => 3 - (intOf i).toNat)
      case atStart => exact ⟨0, by decide, rfl, Lib.hid (Below.refl _ _)⟩
      case round =>
        obtain ⟨k, hk, rfl, HBL⟩ := hrel
        by_cases hlt : k < 3
        · have hkI : (0 : Int) ≤ (k : Int) ∧ (k : Int) < 3 := by omega
          have hgl21 : gl < w21.heap.size := (Array.getElem?_eq_some_iff.1 HNL.out).1
          have hglr : gl < wr.heap.size := Nat.lt_of_lt_of_le hgl21 HBL.out.size
          obtain ⟨ab, di, a, Q, c, hQ64, d0, d1, d2, HR⟩ : ∃ (ab di : Bool) (a : Option Addr) (Q : List Bs) (c : Nat), Q.length ≤ 64 ∧ wr.cell? ⟨gl, k * 3, none⟩ = some (.bool ab) ∧ wr.cell? ⟨gl, k * 3 + 1, none⟩ = some (.bool di) ∧ wr.cell? ⟨gl, k * 3 + 2, none⟩ = some (.slice a Q.length c) ∧ Hid (ReadsV wr a Q.length (strsV Q)) := by
            have n := (HBL.out.block gl hgl21).trans HNL.out
            rcases (by omega : k = 0 ∨ k = 1 ∨ k = 2) with rfl | rfl | rfl
            · exact ⟨abA, diA, aA, QA, cA, by have := HQA.out; omega, (cellRow n _).trans rfl, (cellRow n _).trans rfl, (cellRow n _).trans rfl, Lib.hid (HR210.out.below HBL.out)⟩
            · exact ⟨true, JD, aB, JQ, cB, by have := HJL.out; omega, (cellRow n _).trans rfl, (cellRow n _).trans rfl, (cellRow n _).trans rfl, Lib.hid (HR211.out.below HBL.out)⟩
            · exact ⟨true, JD, ja, JQ, jc, by have := HJL.out; omega, (cellRow n _).trans rfl, (cellRow n _).trans rfl, (cellRow n _).trans rfl, Lib.hid (HR212.out.below HBL.out)⟩
          have bx := below_box wr (.cells #[.bool ab, .bool di, .slice a Q.length c] 25)
          have nx := heap_alloc_new wr (.cells #[.bool ab, .bool di, .slice a Q.length c] 25)
          obtain ⟨wx, hwx⟩ : ∃ x, wr.alloc (.cells #[.bool ab, .bool di, .slice a Q.length c] 25) = x := ⟨_, rfl⟩
          rw [hwx] at bx nx
          have HBX : Hid (Below w21.heap.size w21 wx) := Lib.hid (HBL.out.trans (bx.mono HBL.out.size))
          have HRX := Lib.hid (HR.out.below bx)
          have KX := Lib.hid (kept3_of nx)
          have HS16 : Hid (∀ w', Below wx.heap.size wx w' → w'.cell? ⟨wr.heap.size, 0, none⟩ = some (.bool ab) ∧ w'.cell? ⟨wr.heap.size, 1, none⟩ = some (.bool di) ∧ w'.cell? ⟨wr.heap.size, 2, none⟩ = some (.slice a Q.length c)) := Lib.hid (fun w' h => ⟨(KX.out.below h).1, (KX.out.below h).2.1, (KX.out.below h).2.2.1⟩)
          clear bx nx HR
          go_upto_region 16 with fail
          clear d0 d1 d2 hwx
          have Hdx : Below wx.heap.size wx wx.drew := ⟨rfl, rfl, rfl, Nat.le_refl _, fun _ _ => rfl⟩
          go_cut [13, 14] (fun v13 v14 wc2 => ∃ (a1 a2 : Option Addr) (c1 c2 : Nat), v13 = .slice a1 (cleanL Q).length c1 ∧ v14 = .slice a2 (cleanL Q).length c2 ∧ Hid (ReadsV wc2 a1 (cleanL Q).length (strsV (cleanL Q))) ∧ Hid (ReadsV wc2 a2 (cleanL Q).length (strsV (cleanL Q))) ∧ Hid (Below wx.heap.size wx wc2))
          case first =>
            refine wp_region_noPanic ?_
            refine wp_region_held_drew (S := (fun w' => w'.cell? ⟨wr.heap.size, 0, none⟩ = some (.bool ab) ∧ w'.cell? ⟨wr.heap.size, 1, none⟩ = some (.bool di) ∧ w'.cell? ⟨wr.heap.size, 2, none⟩ = some (.slice a Q.length c))) (by kernel_rfl) (HS16.out _ Hdx) (fun hHeld => ?_)
            refine wpAnyH_take (i := 0) (v := .agg #[.bool ab, .bool di, .slice a Q.length c]) rfl (by kernel_rfl) (by kernel_rfl) (by kernel_rfl) (fun _ _ _ h => h) (Or.inl ⟨by kernel_rfl, fun wS hSw => by
              dsimp only at hSw
              obtain ⟨sq0, sq1, sq2⟩ := hSw
              go_simp⟩) hHeld ?_
            try simp only [Act.put, List.setIfInBounds_toArray, List.set_cons_zero, List.set_cons_succ]
            refine wpAnyH_take (i := 2) (v := .pointer (some ⟨wr.heap.size, 2, none⟩)) rfl (by kernel_rfl) (by kernel_rfl) (by kernel_rfl) (fun _ _ _ h => h) (Or.inl ⟨by kernel_rfl, fun wS hSw => by
              dsimp only at hSw
              obtain ⟨sq0, sq1, sq2⟩ := hSw
              go_simp⟩) hHeld ?_
            try simp only [Act.put, List.setIfInBounds_toArray, List.set_cons_zero, List.set_cons_succ]
            refine wpAnyH_take (i := 3) (v := .slice a Q.length c) rfl (by kernel_rfl) (by kernel_rfl) (by kernel_rfl) (fun _ _ _ h => h) (Or.inl ⟨by kernel_rfl, fun wS hSw => by
              dsimp only at hSw
              obtain ⟨sq0, sq1, sq2⟩ := hSw
              go_simp⟩) hHeld ?_
            try simp only [Act.put, List.setIfInBounds_toArray, List.set_cons_zero, List.set_cons_succ]
            refine wpAnyH_ready (rs := [1]) (by kernel_rfl) (by simp) ?_
            refine AllReadyH.cons rfl (fun K hK => ?_) AllReadyH.nil
            go_simp
            refine (pclean_is ab di a c Q _ (HRX.out.below Hdx) (by omega)).mono ?_
            rintro e cw1 hcl1
            obtain ⟨a1, c1, rfl, r1, _, b1⟩ := cleaned hcl1
            have HD1 : Hid (Below wx.heap.size wx cw1) := Lib.hid (Hdx.trans (b1.mono (Nat.le_refl _)))
            try dsimp only
            refine hK.out _ _ (HS16.out _ HD1.out) (fun hHeld2 => ?_)
            clear hK K hHeld hcl1 b1
            have hHeld := hHeld2
            clear hHeld2
            try simp only [Act.put, List.setIfInBounds_toArray, List.set_cons_zero, List.set_cons_succ]
            refine wpAnyH_ready (rs := [4]) (by kernel_rfl) (by simp) ?_
            refine AllReadyH.cons rfl (fun K hK => ?_) AllReadyH.nil
            go_simp
            refine (rclean_is a c Q _ (HRX.out.below HD1.out) (by omega)).mono ?_
            rintro e cw2 hcl2
            obtain ⟨a2, c2, rfl, r2, _, b2⟩ := cleaned hcl2
            have HD2 : Hid (Below wx.heap.size wx cw2) := Lib.hid (HD1.out.trans (b2.mono HD1.out.size))
            have r12 := r1.below b2
            try dsimp only
            refine hK.out _ _ (HS16.out _ HD2.out) (fun hHeld2 => ?_)
            clear hK K hHeld hcl2 b2
            have hHeld := hHeld2
            clear hHeld2
            try simp only [Act.put, List.setIfInBounds_toArray, List.set_cons_zero, List.set_cons_succ]
            refine wpAnyH_take (i := 5) (oi := { dst := some 13, op := Op.assign (Operand.tmp 76), type := _, pos := _, after := _, guard := _ }) (v := (.slice a1 (cleanL Q).length c1)) rfl (by kernel_rfl) (by kernel_rfl) (by kernel_rfl) (fun _ _ _ h => h) (Or.inl ⟨by kernel_rfl, fun wS hSw => by
              go_simp⟩) hHeld ?_
            try simp only [Act.put, List.setIfInBounds_toArray, List.set_cons_zero, List.set_cons_succ]
            refine wpAnyH_take (i := 6) (oi := { dst := some 14, op := Op.assign (Operand.tmp 79), type := _, pos := _, after := _, guard := _ }) (v := (.slice a2 (cleanL Q).length c2)) rfl (by kernel_rfl) (by kernel_rfl) (by kernel_rfl) (fun _ _ _ h => h) (Or.inl ⟨by kernel_rfl, fun wS hSw => by
              go_simp⟩) hHeld ?_
            try simp only [Act.put, List.setIfInBounds_toArray, List.set_cons_zero, List.set_cons_succ]
            refine wpAnyH_done (by kernel_rfl) (NoPanic.normal ?_) _
            clear hHeld
            try (go_wp2_with fail)
            go_meet
            exact ⟨a1, a2, c1, c2, rfl, rfl, Lib.hid r12, Lib.hid r2, HD2⟩
          case rest =>
            obtain ⟨a1, a2, c1, c2, rfl, rfl, HR1, HR2, HBC⟩ := hcut
            have HLQ := Lib.hid (fun p (hp : p ∈ cleanL Q) => (cleanL_mem hp).2)
            have HL64 : Hid ((cleanL Q).length ≤ 64) := Lib.hid (by have := cleanL_take_len Q Q.length; rw [List.take_length] at this; omega)
            obtain ⟨C, hC⟩ : ∃ C, cleanL Q = C := ⟨_, rfl⟩
            rw [hC] at HR1 HR2 HLQ HL64 ⊢
            clear hC
            have HBR : Hid (Below w21.heap.size w21 wc) := Lib.hid (HBX.out.trans (HBC.out.mono HBX.out.size))
            have hnn : ((C.length : Int) != (C.length : Int)) = false := by simp
            clear HS16 Hdx KX HRX HBC HBX hkI
            go_wp2_with fail
            go_loopw [15, 87] (fun _ i wq => ∃ q : Nat, q ≤ C.length ∧ i = .int .i64 (q : Int) ∧ Hid (Below wc.heap.size wc wq)) (fun _ i _ => C.length - (intOf i).toNat)
            case atStart => exact ⟨0, Nat.zero_le _, rfl, Lib.hid (Below.refl _ _)⟩
            case round =>
              obtain ⟨q, hq, rfl, HBQ⟩ := hrel
              have hC64 := HL64.out
              by_cases hql : q < C.length
              · have hqI : (q : Int) < (C.length : Int) := by omega
                have hq0 : (0 : Int) ≤ (q : Int) := by omega
                obtain ⟨y, hy⟩ : ∃ p, C[q]? = some p := ⟨_, List.getElem?_eq_getElem hql⟩
                obtain ⟨g1, o1, rfl, hg1, x1⟩ := strs_get HR1.out q y hy
                obtain ⟨g2, o2, rfl, hg2, x2⟩ := strs_get HR2.out q y hy
                obtain ⟨z, hz⟩ : ∃ z : ByteArray, z = ⟨y.toArray⟩ := ⟨_, rfl⟩
                have hzl : z.data.toList = y := by rw [hz]
                have y1 := (HBQ.out.cell (p := ⟨g1, o1 + q, none⟩) hg1).trans x1
                have y2 := (HBQ.out.cell (p := ⟨g2, o2 + q, none⟩) hg2).trans x2
                have hv : strV y = .string z := by rw [hz]; rfl
                rw [hv] at y1 y2
                have hup : (z.toList == [46, 46]) = false := by
                  rw [txt_tests hzl]
                  exact beq_eq_false_iff_ne.2 (HLQ.out y (List.mem_of_getElem? hy))
                have hne : (z.toList != z.toList) = false := by simp
                have hr1 := cell_regrown y1
                have hr2 := cell_regrown y2
                clear hy x1 x2 hg1 hg2 hz hzl hv
                go_wp2_with fail
                refine wp_region_quiet_below (by kernel_rfl) (by kernel_rfl) ?_
                repeat (go_big_quiet_step (fail))
                refine wpQuiet_nil (regrown_name fun w30 b => ?_)
                have HBQ2 : Hid (Below wc.heap.size wc w30) := Lib.hid (HBQ.out.trans (b.mono HBQ.out.size))
                clear hr1 hr2 b y1 y2
                go_wp2
                go_roundw
                case rel => exact ⟨q + 1, by omega, by go_num, HBQ2⟩
                case measure => simp [intOf]; omega
              · have hqI : ¬ (q : Int) < (C.length : Int) := by omega
                have HBN : Hid (Below w21.heap.size w21 wr) := Lib.hid (HBR.out.trans (HBQ.out.mono HBR.out.size))
                clear HR1 HR2
                go_wp2
                go_roundw
                case rel =>
                  first
                    | exact ⟨k + 1, by omega, by go_num, HBN⟩
                    | exact ⟨_, _, _, _, _, ⟨k + 1, by omega, by go_num, HBN⟩, rfl⟩
                    | ((repeat apply Exists.intro); exact ⟨⟨k + 1, by omega, by go_num, HBN⟩, rfl⟩)
                case measure => simp [intOf]; omega
        · obtain rfl : k = 3 := by omega
          have HBZ : Hid (Below w.heap.size w wr) := Lib.hid (HB21.out.trans (HBL.out.mono HB21.out.size))
          go_wp2
          go_ret
          exact ⟨rfl, HBZ.out⟩
    | false =>
      have e1 : JA = abA := by rw [← hja]; rfl
      have e2 : JD = D8 := by rw [← hjd, ← HD8.out]; rfl
      have e3 : JQ = QA ++ QB := by rw [← hjq]; rfl
      subst e1 e2
      have HE3 := Lib.hid e3
      rw [← e3] at HW HWR
      clear hja hjd hjq e3
      go_wp2_with fail
      clear q0 q1 q2 qz
      have HCz := HC6.out
      have KWz := Lib.hid (kept3_of HW.out)
      have RWz := HWR
      obtain ⟨wz, hwz⟩ : ∃ x, wc = x := ⟨_, rfl⟩
      subst hwz
      clear HW HWR
      have KPz := HKP6.out.below HCz
      have KQz := HKQ6.out.below HCz
      have KJz := KJ.out.below HCz
      have RJz := Lib.hid (HJR.out.below HCz)
      have HBz : Hid (Below w.heap.size w wc) := Lib.hid (HBF.out.trans (HCz.mono HBF.out.size))
      obtain ⟨j0, j1, j2, _, _, _, jz⟩ := KJz
      obtain ⟨k0, k1, k2, _, _, _, kz⟩ := KWz.out
      have hj0 := cell_regrown j0
      have hj1 := cell_regrown j1
      have hj2 := cell_regrown j2
      have hk0 := cell_regrown k0
      have hk1 := cell_regrown k1
      have hk2 := cell_regrown k2
      refine wp_region_quiet_below (by kernel_rfl) (by kernel_rfl) ?_
      repeat (go_big_quiet_step (first | (go_at_call 8; exact Calls.regrown_of (told_is _ _ _ _ _ _)) | (go_at_call 9; exact Calls.regrown_of (same_is _ _ _ _ _ _ _ _ (RJz.out.below (below_regrown _ _ _)) (RWz.out.below (below_regrown _ _ _)) (by have := HJL.out; omega)))))
      refine wpQuiet_nil (regrown_name fun w20 b => ?_)
      have HC20 : Below w6.heap.size w6 w20 := HCz.trans (b.mono HCz.size)
      clear hj0 hj1 hj2 hk0 hk1 hk2 j0 j1 j2 k0 k1 k2 jz kz b KWz RWz RJz KPz KQz
      have HB20 : Hid (Below w.heap.size w w20) := Lib.hid (HBF.out.trans (HC20.mono HBF.out.size))
      obtain ⟨p0, p1, p2, _, _, _, pz⟩ := HKP6.out.below HC20
      obtain ⟨q0, q1, q2, _, _, _, qz⟩ := HKQ6.out.below HC20
      obtain ⟨j0, j1, j2, _, _, _, jz⟩ := KJ.out.below HC20
      have bl := below_box w20 (.cells #[.bool JA, .bool diA, .slice aA QA.length cA, .bool false, .bool diB, .slice aB QB.length cB, .bool JA, .bool JD, .slice ja JQ.length jc] 25)
      have nl := heap_alloc_new w20 (.cells #[.bool JA, .bool diA, .slice aA QA.length cA, .bool false, .bool diB, .slice aB QB.length cB, .bool JA, .bool JD, .slice ja JQ.length jc] 25)
      obtain ⟨w21, hw21⟩ : ∃ x, w20.alloc (.cells #[.bool JA, .bool diA, .slice aA QA.length cA, .bool false, .bool diB, .slice aB QB.length cB, .bool JA, .bool JD, .slice ja JQ.length jc] 25) = x := ⟨_, rfl⟩
      rw [hw21] at bl nl
      have HC21 : Below w6.heap.size w6 w21 := HC20.trans (bl.mono HC20.size)
      have HB21 : Hid (Below w.heap.size w w21) := Lib.hid (HBF.out.trans (HC21.mono HBF.out.size))
      have HR210 := Lib.hid (HRA6.out.below HC21)
      have HR211 := Lib.hid (HRB6.out.below HC21)
      have HR212 := Lib.hid (HJR.out.below HC21)
      have HNL := Lib.hid nl
      clear bl nl HC20 HB20
      go_wp2_with fail
      clear p0 p1 p2 q0 q1 q2 j0 j1 j2 pz qz jz hw21
      obtain ⟨gl, hgl⟩ : ∃ g, w20.heap.size = g := ⟨_, rfl⟩
      rw [hgl] at HNL ⊢
      clear hgl
      go_loopw [13, 14, 15, 71, 87] (fun _ _ _ i _ wr => ∃ k : Nat, k ≤ 3 ∧ i = .int .i64 (k : Int) ∧ Hid (Below w21.heap.size w21 wr)) (fun _ _ _ i _ _ => 3 - (intOf i).toNat)
      case atStart => exact ⟨0, by decide, rfl, Lib.hid (Below.refl _ _)⟩
      case round =>
        obtain ⟨k, hk, rfl, HBL⟩ := hrel
        by_cases hlt : k < 3
        · have hkI : (0 : Int) ≤ (k : Int) ∧ (k : Int) < 3 := by omega
          have hgl21 : gl < w21.heap.size := (Array.getElem?_eq_some_iff.1 HNL.out).1
          have hglr : gl < wr.heap.size := Nat.lt_of_lt_of_le hgl21 HBL.out.size
          obtain ⟨ab, di, a, Q, c, hQ64, d0, d1, d2, HR⟩ : ∃ (ab di : Bool) (a : Option Addr) (Q : List Bs) (c : Nat), Q.length ≤ 64 ∧ wr.cell? ⟨gl, k * 3, none⟩ = some (.bool ab) ∧ wr.cell? ⟨gl, k * 3 + 1, none⟩ = some (.bool di) ∧ wr.cell? ⟨gl, k * 3 + 2, none⟩ = some (.slice a Q.length c) ∧ Hid (ReadsV wr a Q.length (strsV Q)) := by
            have n := (HBL.out.block gl hgl21).trans HNL.out
            rcases (by omega : k = 0 ∨ k = 1 ∨ k = 2) with rfl | rfl | rfl
            · exact ⟨JA, diA, aA, QA, cA, by have := HQA.out; omega, (cellRow n _).trans rfl, (cellRow n _).trans rfl, (cellRow n _).trans rfl, Lib.hid (HR210.out.below HBL.out)⟩
            · exact ⟨false, diB, aB, QB, cB, by have := HQB.out; omega, (cellRow n _).trans rfl, (cellRow n _).trans rfl, (cellRow n _).trans rfl, Lib.hid (HR211.out.below HBL.out)⟩
            · exact ⟨JA, JD, ja, JQ, jc, by have := HJL.out; omega, (cellRow n _).trans rfl, (cellRow n _).trans rfl, (cellRow n _).trans rfl, Lib.hid (HR212.out.below HBL.out)⟩
          have bx := below_box wr (.cells #[.bool ab, .bool di, .slice a Q.length c] 25)
          have nx := heap_alloc_new wr (.cells #[.bool ab, .bool di, .slice a Q.length c] 25)
          obtain ⟨wx, hwx⟩ : ∃ x, wr.alloc (.cells #[.bool ab, .bool di, .slice a Q.length c] 25) = x := ⟨_, rfl⟩
          rw [hwx] at bx nx
          have HBX : Hid (Below w21.heap.size w21 wx) := Lib.hid (HBL.out.trans (bx.mono HBL.out.size))
          have HRX := Lib.hid (HR.out.below bx)
          have KX := Lib.hid (kept3_of nx)
          have HS16 : Hid (∀ w', Below wx.heap.size wx w' → w'.cell? ⟨wr.heap.size, 0, none⟩ = some (.bool ab) ∧ w'.cell? ⟨wr.heap.size, 1, none⟩ = some (.bool di) ∧ w'.cell? ⟨wr.heap.size, 2, none⟩ = some (.slice a Q.length c)) := Lib.hid (fun w' h => ⟨(KX.out.below h).1, (KX.out.below h).2.1, (KX.out.below h).2.2.1⟩)
          clear bx nx HR
          go_upto_region 16 with fail
          clear d0 d1 d2 hwx
          have Hdx : Below wx.heap.size wx wx.drew := ⟨rfl, rfl, rfl, Nat.le_refl _, fun _ _ => rfl⟩
          go_cut [13, 14] (fun v13 v14 wc2 => ∃ (a1 a2 : Option Addr) (c1 c2 : Nat), v13 = .slice a1 (cleanL Q).length c1 ∧ v14 = .slice a2 (cleanL Q).length c2 ∧ Hid (ReadsV wc2 a1 (cleanL Q).length (strsV (cleanL Q))) ∧ Hid (ReadsV wc2 a2 (cleanL Q).length (strsV (cleanL Q))) ∧ Hid (Below wx.heap.size wx wc2))
          case first =>
            refine wp_region_noPanic ?_
            refine wp_region_held_drew (S := (fun w' => w'.cell? ⟨wr.heap.size, 0, none⟩ = some (.bool ab) ∧ w'.cell? ⟨wr.heap.size, 1, none⟩ = some (.bool di) ∧ w'.cell? ⟨wr.heap.size, 2, none⟩ = some (.slice a Q.length c))) (by kernel_rfl) (HS16.out _ Hdx) (fun hHeld => ?_)
            refine wpAnyH_take (i := 0) (v := .agg #[.bool ab, .bool di, .slice a Q.length c]) rfl (by kernel_rfl) (by kernel_rfl) (by kernel_rfl) (fun _ _ _ h => h) (Or.inl ⟨by kernel_rfl, fun wS hSw => by
              dsimp only at hSw
              obtain ⟨sq0, sq1, sq2⟩ := hSw
              go_simp⟩) hHeld ?_
            try simp only [Act.put, List.setIfInBounds_toArray, List.set_cons_zero, List.set_cons_succ]
            refine wpAnyH_take (i := 2) (v := .pointer (some ⟨wr.heap.size, 2, none⟩)) rfl (by kernel_rfl) (by kernel_rfl) (by kernel_rfl) (fun _ _ _ h => h) (Or.inl ⟨by kernel_rfl, fun wS hSw => by
              dsimp only at hSw
              obtain ⟨sq0, sq1, sq2⟩ := hSw
              go_simp⟩) hHeld ?_
            try simp only [Act.put, List.setIfInBounds_toArray, List.set_cons_zero, List.set_cons_succ]
            refine wpAnyH_take (i := 3) (v := .slice a Q.length c) rfl (by kernel_rfl) (by kernel_rfl) (by kernel_rfl) (fun _ _ _ h => h) (Or.inl ⟨by kernel_rfl, fun wS hSw => by
              dsimp only at hSw
              obtain ⟨sq0, sq1, sq2⟩ := hSw
              go_simp⟩) hHeld ?_
            try simp only [Act.put, List.setIfInBounds_toArray, List.set_cons_zero, List.set_cons_succ]
            refine wpAnyH_ready (rs := [1]) (by kernel_rfl) (by simp) ?_
            refine AllReadyH.cons rfl (fun K hK => ?_) AllReadyH.nil
            go_simp
            refine (pclean_is ab di a c Q _ (HRX.out.below Hdx) (by omega)).mono ?_
            rintro e cw1 hcl1
            obtain ⟨a1, c1, rfl, r1, _, b1⟩ := cleaned hcl1
            have HD1 : Hid (Below wx.heap.size wx cw1) := Lib.hid (Hdx.trans (b1.mono (Nat.le_refl _)))
            try dsimp only
            refine hK.out _ _ (HS16.out _ HD1.out) (fun hHeld2 => ?_)
            clear hK K hHeld hcl1 b1
            have hHeld := hHeld2
            clear hHeld2
            try simp only [Act.put, List.setIfInBounds_toArray, List.set_cons_zero, List.set_cons_succ]
            refine wpAnyH_ready (rs := [4]) (by kernel_rfl) (by simp) ?_
            refine AllReadyH.cons rfl (fun K hK => ?_) AllReadyH.nil
            go_simp
            refine (rclean_is a c Q _ (HRX.out.below HD1.out) (by omega)).mono ?_
            rintro e cw2 hcl2
            obtain ⟨a2, c2, rfl, r2, _, b2⟩ := cleaned hcl2
            have HD2 : Hid (Below wx.heap.size wx cw2) := Lib.hid (HD1.out.trans (b2.mono HD1.out.size))
            have r12 := r1.below b2
            try dsimp only
            refine hK.out _ _ (HS16.out _ HD2.out) (fun hHeld2 => ?_)
            clear hK K hHeld hcl2 b2
            have hHeld := hHeld2
            clear hHeld2
            try simp only [Act.put, List.setIfInBounds_toArray, List.set_cons_zero, List.set_cons_succ]
            refine wpAnyH_take (i := 5) (oi := { dst := some 13, op := Op.assign (Operand.tmp 76), type := _, pos := _, after := _, guard := _ }) (v := (.slice a1 (cleanL Q).length c1)) rfl (by kernel_rfl) (by kernel_rfl) (by kernel_rfl) (fun _ _ _ h => h) (Or.inl ⟨by kernel_rfl, fun wS hSw => by
              go_simp⟩) hHeld ?_
            try simp only [Act.put, List.setIfInBounds_toArray, List.set_cons_zero, List.set_cons_succ]
            refine wpAnyH_take (i := 6) (oi := { dst := some 14, op := Op.assign (Operand.tmp 79), type := _, pos := _, after := _, guard := _ }) (v := (.slice a2 (cleanL Q).length c2)) rfl (by kernel_rfl) (by kernel_rfl) (by kernel_rfl) (fun _ _ _ h => h) (Or.inl ⟨by kernel_rfl, fun wS hSw => by
              go_simp⟩) hHeld ?_
            try simp only [Act.put, List.setIfInBounds_toArray, List.set_cons_zero, List.set_cons_succ]
            refine wpAnyH_done (by kernel_rfl) (NoPanic.normal ?_) _
            clear hHeld
            try (go_wp2_with fail)
            go_meet
            exact ⟨a1, a2, c1, c2, rfl, rfl, Lib.hid r12, Lib.hid r2, HD2⟩
          case rest =>
            obtain ⟨a1, a2, c1, c2, rfl, rfl, HR1, HR2, HBC⟩ := hcut
            have HLQ := Lib.hid (fun p (hp : p ∈ cleanL Q) => (cleanL_mem hp).2)
            have HL64 : Hid ((cleanL Q).length ≤ 64) := Lib.hid (by have := cleanL_take_len Q Q.length; rw [List.take_length] at this; omega)
            obtain ⟨C, hC⟩ : ∃ C, cleanL Q = C := ⟨_, rfl⟩
            rw [hC] at HR1 HR2 HLQ HL64 ⊢
            clear hC
            have HBR : Hid (Below w21.heap.size w21 wc) := Lib.hid (HBX.out.trans (HBC.out.mono HBX.out.size))
            have hnn : ((C.length : Int) != (C.length : Int)) = false := by simp
            clear HS16 Hdx KX HRX HBC HBX hkI
            go_wp2_with fail
            go_loopw [15, 87] (fun _ i wq => ∃ q : Nat, q ≤ C.length ∧ i = .int .i64 (q : Int) ∧ Hid (Below wc.heap.size wc wq)) (fun _ i _ => C.length - (intOf i).toNat)
            case atStart => exact ⟨0, Nat.zero_le _, rfl, Lib.hid (Below.refl _ _)⟩
            case round =>
              obtain ⟨q, hq, rfl, HBQ⟩ := hrel
              have hC64 := HL64.out
              by_cases hql : q < C.length
              · have hqI : (q : Int) < (C.length : Int) := by omega
                have hq0 : (0 : Int) ≤ (q : Int) := by omega
                obtain ⟨y, hy⟩ : ∃ p, C[q]? = some p := ⟨_, List.getElem?_eq_getElem hql⟩
                obtain ⟨g1, o1, rfl, hg1, x1⟩ := strs_get HR1.out q y hy
                obtain ⟨g2, o2, rfl, hg2, x2⟩ := strs_get HR2.out q y hy
                obtain ⟨z, hz⟩ : ∃ z : ByteArray, z = ⟨y.toArray⟩ := ⟨_, rfl⟩
                have hzl : z.data.toList = y := by rw [hz]
                have y1 := (HBQ.out.cell (p := ⟨g1, o1 + q, none⟩) hg1).trans x1
                have y2 := (HBQ.out.cell (p := ⟨g2, o2 + q, none⟩) hg2).trans x2
                have hv : strV y = .string z := by rw [hz]; rfl
                rw [hv] at y1 y2
                have hup : (z.toList == [46, 46]) = false := by
                  rw [txt_tests hzl]
                  exact beq_eq_false_iff_ne.2 (HLQ.out y (List.mem_of_getElem? hy))
                have hne : (z.toList != z.toList) = false := by simp
                have hr1 := cell_regrown y1
                have hr2 := cell_regrown y2
                clear hy x1 x2 hg1 hg2 hz hzl hv
                go_wp2_with fail
                refine wp_region_quiet_below (by kernel_rfl) (by kernel_rfl) ?_
                repeat (go_big_quiet_step (fail))
                refine wpQuiet_nil (regrown_name fun w30 b => ?_)
                have HBQ2 : Hid (Below wc.heap.size wc w30) := Lib.hid (HBQ.out.trans (b.mono HBQ.out.size))
                clear hr1 hr2 b y1 y2
                go_wp2
                go_roundw
                case rel => exact ⟨q + 1, by omega, by go_num, HBQ2⟩
                case measure => simp [intOf]; omega
              · have hqI : ¬ (q : Int) < (C.length : Int) := by omega
                have HBN : Hid (Below w21.heap.size w21 wr) := Lib.hid (HBR.out.trans (HBQ.out.mono HBR.out.size))
                clear HR1 HR2
                go_wp2
                go_roundw
                case rel =>
                  first
                    | exact ⟨k + 1, by omega, by go_num, HBN⟩
                    | exact ⟨_, _, _, _, _, ⟨k + 1, by omega, by go_num, HBN⟩, rfl⟩
                    | ((repeat apply Exists.intro); exact ⟨⟨k + 1, by omega, by go_num, HBN⟩, rfl⟩)
                case measure => simp [intOf]; omega
        · obtain rfl : k = 3 := by omega
          have HBZ : Hid (Below w.heap.size w wr) := Lib.hid (HB21.out.trans (HBL.out.mono HB21.out.size))
          go_wp2
          go_ret
          exact ⟨rfl, HBZ.out⟩
end Go.Proofs.YtpnafikmbbnecaaDoor
