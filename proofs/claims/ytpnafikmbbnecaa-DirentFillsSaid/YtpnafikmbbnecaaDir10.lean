/- The document's May; the law's own. -/
import Derived.Test.YtpnafikmbbnecaaDir9
import Derived.Test.YtpnafikmbbnecaaDir7
namespace Go.Proofs.Ytpnafikmbbnecaa
open Go.RowKit Go.Sort
set_option linter.unusedVariables false
set_option linter.unusedSimpArgs false
set_option maxRecDepth 100000

set_option maxHeartbeats 3200000 in
theorem rmay_is {E : List Ent} (hE : E.length = 4) (hz : ∀ x ∈ E, x.2.size ≤ 400) (w : World) :
    Calls Try.prog 106 #[.agg (csE E)] w fun e w' => e = .returned (.bool (E.all mayD)) ∧ Below w.heap.size w w' := by
  have b1 := below_box w (.cells (csE E) 33)
  have n1 := heap_alloc_new w (.cells (csE E) 33)
  obtain ⟨w1, hw1⟩ : ∃ w1, w.alloc (.cells (csE E) 33) = w1 := ⟨_, rfl⟩
  rw [hw1] at b1 n1
  have HN1 := Lib.hid n1
  have HB1 := Lib.hid b1
  have HE := Lib.hid hE
  have HZ := Lib.hid hz
  clear b1 n1 hE hz
  go_enter Try.func106, Try.ntmps106
  go_wp2_with fail
  clear hw1
  go_loop [3] (fun i => ∃ j : Nat, j ≤ 4 ∧ i = .int .i64 j ∧ Hid (∀ i x, i < j → E[i]? = some x → mayD x = true)) (fun i => 4 - (intOf i).toNat)
  case atStart => exact ⟨0, by decide, rfl, Lib.hid (fun i x hi => by omega)⟩
  case round =>
    obtain ⟨j, hj, rfl, HOK⟩ := hrel
    by_cases hlt : j < 4
    · have hjI : (0 : Int) ≤ (j : Int) ∧ (j : Int) < 4 := by omega
      obtain ⟨⟨z, s⟩, ex⟩ : ∃ x, E[j]? = some x := ⟨_, List.getElem?_eq_getElem (by rw [HE.out]; exact hlt)⟩
      obtain ⟨g1, g2⟩ := csE_get ex
      have c0 : w1.cell? ⟨w.heap.size, j * 2, none⟩ = some (.int .i64 z) := (cell_of_row HN1.out (j * 2)).trans g1
      have c1 : w1.cell? ⟨w.heap.size, j * 2 + 1, none⟩ = some (.string s) := (cell_of_row HN1.out (j * 2 + 1)).trans g2
      have hs4 := HZ.out (z, s) (List.mem_of_getElem? ex)
      dsimp only at hs4
      have HG := Lib.hid (rgood_is s w1 (by unfold maxLen; omega))
      have HEX := Lib.hid ex
      have htl := Lib.toList_data s
      have HNEXT : Hid (mayD (z, s) = true → ∀ i x, i < j + 1 → E[i]? = some x → mayD x = true) := Lib.hid (fun hm i x hi hx => by
        by_cases hij : i = j
        · subst hij
          have := hx.symm.trans HEX.out
          cases this
          exact hm
        · exact HOK.out i x (by omega) hx)
      have HNO : Hid (mayD (z, s) = false → E.all mayD = false) := Lib.hid (fun hm => List.all_eq_false.2 ⟨(z, s), List.mem_of_getElem? HEX.out, by rw [hm]; decide⟩)
      clear g1 g2 ex hs4
      by_cases hneg : z < 0
      · have hd0 : decide (z < 0) = true := decide_eq_true hneg
        have HM : Hid (E.all mayD = false) := Lib.hid (HNO.out (by unfold mayD; dsimp only; rw [if_neg (by omega), decide_eq_false (by omega), Bool.false_and]))
        clear htl hneg
        go_wp2
        go_ret
        exact ⟨by rw [HM.out]; rfl, HB1.out⟩
      · have hd0 : decide (z < 0) = false := decide_eq_false hneg
        by_cases hbig : 200 < z
        · have hd1 : decide (200 < z) = true := decide_eq_true hbig
          have HM : Hid (E.all mayD = false) := Lib.hid (HNO.out (by unfold mayD; dsimp only; rw [if_neg (by omega), decide_eq_false (by omega), Bool.false_and]))
          clear htl hneg hbig
          go_wp2
          go_ret
          exact ⟨by rw [HM.out]; rfl, HB1.out⟩
        · have hd1 : decide (200 < z) = false := decide_eq_false hbig
          by_cases hz0 : z = 0
          · have hzb : (z == 0) = true := by rw [hz0]; rfl
            have hpd : decide (0 < z) = false := decide_eq_false (by omega)
            by_cases h0 : s.data.toList = []
            · have hm : mayD (z, s) = true := by unfold mayD; dsimp only; rw [if_pos hz0]; exact decide_eq_true h0
              have HNX := Lib.hid (HNEXT.out hm)
              have e1 : s.toList = [] := htl.trans h0
              have e2 : s.toList.isEmpty = true := by rw [e1]; rfl
              clear htl hneg hbig hm h0 hz0
              go_wp2
              go_round
              case rel => exact ⟨j + 1, by omega, by go_num, HNX⟩
              case measure => simp [intOf]; omega
            · have HM : Hid (E.all mayD = false) := Lib.hid (HNO.out (by unfold mayD; dsimp only; rw [if_pos hz0]; exact decide_eq_false h0))
              have e1 : ¬ s.toList = [] := by rw [htl]; exact h0
              have e2 : s.toList.isEmpty = false := by cases h : s.toList with | nil => exact absurd h e1 | cons => rfl
              clear htl hneg hbig h0 hz0
              go_wp2
              go_ret
              exact ⟨by rw [HM.out]; rfl, HB1.out⟩
          · have hzb : (z == 0) = false := by simpa using hz0
            have hpd : decide (0 < z) = true := decide_eq_true (by omega)
            obtain ⟨ge, hge⟩ : ∃ g, goodE s.data.toList = g := ⟨_, rfl⟩
            rw [hge] at HG
            by_cases hg0 : ge = 0
            · have hm : mayD (z, s) = true := by unfold mayD; dsimp only; rw [if_neg hz0, decide_eq_true (by omega), hge, hg0]; rfl
              have HNX := Lib.hid (HNEXT.out hm)
              subst hg0
              clear htl hneg hbig hm hz0 hge
              go_wp2_with fail
              refine HG.out.mono ?_
              rintro e w2 ⟨rfl, rfl⟩
              go_wp2
              go_round
              case rel => exact ⟨j + 1, by omega, by go_num, HNX⟩
              case measure => simp [intOf]; omega
            · have HM : Hid (E.all mayD = false) := Lib.hid (HNO.out (by unfold mayD; dsimp only; rw [if_neg hz0, hge, decide_eq_false hg0, Bool.and_false]))
              have hgb : (ge != 0) = true := by simpa using hg0
              have hgc : (ge == 0) = false := by simpa using hg0
              clear htl hneg hbig hz0 hge
              go_wp2_with fail
              refine HG.out.mono ?_
              rintro e w2 ⟨rfl, rfl⟩
              go_wp2
              go_ret
              exact ⟨by rw [HM.out]; rfl, HB1.out⟩
    · obtain rfl : j = 4 := by omega
      have HM : Hid (E.all mayD = true) := Lib.hid (List.all_eq_true.2 fun x hx => by
        obtain ⟨i, hi⟩ := List.getElem?_of_mem hx
        exact HOK.out i x (by have := (List.getElem?_eq_some_iff.1 hi).1; have := HE.out; omega) hi)
      go_wp2
      go_ret
      exact ⟨by rw [HM.out]; rfl, HB1.out⟩
end Go.Proofs.Ytpnafikmbbnecaa
