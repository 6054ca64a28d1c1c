/- A path parsed, by the program's walk: the whole. -/
import Derived.Test.YtpnafikmbbnecaaDoorPParse2
namespace Go.Proofs.YtpnafikmbbnecaaDoor
open Go.RowKit Go.Sort
set_option linter.unusedVariables false
set_option linter.unusedSimpArgs false
set_option maxRecDepth 100000

theorem fit_of {s : ByteArray} (h : s.data.toList.length ≤ 255) : Fit s := by unfold Fit; rw [Lib.size_eq]; omega
theorem goodE_piece {l p : Bs} (h0 : (0 : UInt8) ∉ l) (hp : p ∈ pieces l) (hk : keptB p = true) : goodE p = if 26 < p.length then 9 else 0 := by
  obtain ⟨h1, h2⟩ := pieces_mem hp
  have hb : badB p = false := badB_no.2 ⟨fun h => h0 (h2 0 h), h1⟩
  obtain ⟨h3, _⟩ := keptB_iff.1 hk
  unfold goodE
  rw [hb, if_neg (by decide), if_neg h3]
theorem parse_long {l p : Bs} (h : refE l = 0) (hp : p ∈ pieces l) (hk : keptB p = true) (h26 : 26 < p.length) : parseE l = 9 := by
  obtain ⟨h1, h2, h3⟩ := refE_good h
  refine parseE_bad h1 h2 h3 ?_
  cases hok : okParts (partsOf l) with
  | false => rfl
  | true =>
    have := (okParts_iff.1 hok).1 p (List.mem_filter.2 ⟨hp, hk⟩)
    omega
theorem parse_many {l : Bs} (h : refE l = 0) (h32 : 32 < (partsOf l).length) : parseE l = 9 := by
  obtain ⟨h1, h2, h3⟩ := refE_good h
  refine parseE_bad h1 h2 h3 ?_
  cases hok : okParts (partsOf l) with
  | false => rfl
  | true =>
    have := (okParts_iff.1 hok).2
    omega
theorem parse_ok {l : Bs} (h : refE l = 0) (h26 : ∀ p ∈ partsOf l, p.length ≤ 26) (h32 : (partsOf l).length ≤ 32) : parseE l = 0 := by
  obtain ⟨h1, h2, h3⟩ := refE_good h
  exact parseE_of h1 h2 h3 (okParts_iff.2 ⟨h26, h32⟩)
/-- How the last piece decides. -/
theorem last_ways (l : Bs) : (lastP l = [] ∧ dirB l = true) ∨ (lastP l = [46] ∧ dirB l = true) ∨ (lastP l = [46, 46] ∧ dirB l = true) ∨ (lastP l ≠ [] ∧ lastP l ≠ [46] ∧ lastP l ≠ [46, 46] ∧ dirB l = false) := by
  unfold dirB
  by_cases h1 : lastP l = []
  · left; simp [h1]
  · by_cases h2 : lastP l = [46]
    · right; left; simp [h2]
    · by_cases h3 : lastP l = [46, 46]
      · right; right; left; simp [h3]
      · right; right; right; simp [h1, h2, h3]
/-- A text's tests. -/
theorem txt_tests {x : ByteArray} {p : Bs} (h : x.data.toList = p) : x.toList = p := (Lib.toList_data x).trans h

set_option maxHeartbeats 12800000 in
theorem pparse_good (s : ByteArray) (w : World) (h : refE s.data.toList = 0) : Calls Tryd.prog 5 #[.string s] w (ParsePost s.data.toList w) := by
  obtain ⟨l, hl⟩ : ∃ l, s.data.toList = l := ⟨_, rfl⟩
  rw [hl] at h ⊢
  have HL := Lib.hid hl
  have HX := Lib.hid h
  have hfit : Fit s := fit_of (by rw [hl]; exact (refE_good h).2.2)
  have HFIT := Lib.hid hfit
  obtain ⟨P, hP⟩ : ∃ P, pieces l = P := ⟨_, rfl⟩
  obtain ⟨D, hD⟩ := pieces_split l
  obtain ⟨M, hM⟩ : ∃ M, D.length = M := ⟨_, rfl⟩
  have hPl : P.length = M + 1 := by rw [← hP, hD, List.length_append, hM]; rfl
  have hPlast : P[M]? = some (lastP l) := by rw [← hP, hD, ← hM]; simp
  have hbound : M ≤ 255 := by
    have h1 := pieces_weigh l
    have h2 : ∀ Q : List Bs, Q.length ≤ weighL Q := by
      intro Q; induction Q with
      | nil => exact Nat.le_refl _
      | cons q Q ih => rw [weighL_cons, List.length_cons]; omega
    have h3 := h2 (pieces l)
    have h4 := (refE_good h).2.2
    rw [hP, hPl] at h3
    rw [hP] at h1
    omega
  have HP := Lib.hid hP
  have HPL := Lib.hid hPl
  have HPLAST := Lib.hid hPlast
  have HAB := Lib.hid (hasPrefix_abs l)
  clear hl h hfit hP hD hM hPl hPlast
  go_enter Tryd.func5, Tryd.ntmps5
  go_wp2_with fail
  refine (refusal_is s _).mono ?_
  rintro e w' ⟨rfl, rfl⟩
  rw [HL.out, HX.out]
  go_wp2_with fail
  refine (split_is s _ HFIT.out).mono ?_
  rintro e w1 ⟨rfl, hw1⟩
  rw [HL.out, HP.out, HPL.out]
  rw [HL.out, HP.out] at hw1
  have hrow : ∀ k p, P[k]? = some p → w1.cell? ⟨w.heap.size + 1, k, none⟩ = some (strV p) := fun k p hk => by
    have h1 := (ReadsV.lit (w.alloc (.cells #[.bool false, .bool false, .slice none 0 0] 25)) (strsV P).toArray 9)
    rw [hw1]
    have h2 := heap_alloc_new (w.alloc (.cells #[.bool false, .bool false, .slice none 0 0] 25)) (.cells (strsV P).toArray 9)
    have h3 : (w.alloc (.cells #[.bool false, .bool false, .slice none 0 0] 25)).heap.size = w.heap.size + 1 := by simp
    rw [h3] at h2
    unfold World.cell?
    rw [h2]
    simpa using strsV_get hk
  have hkeep : w1.heap[w.heap.size]? = some (.cells #[.bool false, .bool false, .slice none 0 0] 25 (0, 0)) := by
    rw [hw1, Below.heap_alloc _ _ _ (by simp)]
    exact heap_alloc_new w _
  have hsz : w1.heap.size = w.heap.size + 2 := by rw [hw1]; simp
  have hB1 : Below w.heap.size w w1 := by rw [hw1]; exact (below_box w _).alloc (by simp) _
  have hsg : (w.alloc (.cells #[.bool false, .bool false, .slice none 0 0] 25)).heap.size = w.heap.size + 1 := by simp
  rw [hsg]
  have HROW := Lib.hid hrow
  have HKEEP := Lib.hid hkeep
  have HSZ := Lib.hid hsz
  have HB1 := Lib.hid hB1
  have hz1 : w.heap.size + 1 < w1.heap.size := by omega
  have hz2 : w.heap.size < w1.heap.size := by omega
  clear hw1 hrow hkeep hsz hB1 hsg
  go_wp2_with fail
  refine (Tryd.strings_HasPrefix s ⟨#[47]⟩ _).mono ?_
  rintro e w' ⟨rfl, rfl⟩
  have e47 : (⟨#[47]⟩ : ByteArray).data.toList = [47] := rfl
  rw [HL.out, e47, HAB.out]
  clear e47
  obtain ⟨ab, hab⟩ : ∃ ab, absB l = ab := ⟨_, rfl⟩
  obtain ⟨x, hx⟩ : ∃ x : ByteArray, x = ⟨(lastP l).toArray⟩ := ⟨_, rfl⟩
  have hxl : x.data.toList = lastP l := by rw [hx]
  have hlast : w'.cell? ⟨w.heap.size + 1, M, none⟩ = some (.string x) := by rw [hx]; exact HROW.out M _ HPLAST.out
  have htx := txt_tests hxl
  rw [hab]
  have HABB := Lib.hid hab
  clear hab hx hxl
  have HW := Lib.hid (last_ways l)
  have hways : ∃ di, dirB l = di ∧ ((di = true ∧ (x.toList = [] ∨ x.toList = [46] ∨ x.toList = [46, 46])) ∨ (di = false ∧ x.toList ≠ [] ∧ x.toList ≠ [46] ∧ x.toList ≠ [46, 46])) := by
    rw [htx]
    rcases HW.out with ⟨a, b⟩ | ⟨a, b⟩ | ⟨a, b⟩ | ⟨a1, a2, a3, b⟩
    · exact ⟨_, b, .inl ⟨rfl, .inl a⟩⟩
    · exact ⟨_, b, .inl ⟨rfl, .inr (.inl a)⟩⟩
    · exact ⟨_, b, .inl ⟨rfl, .inr (.inr a)⟩⟩
    · exact ⟨_, b, .inr ⟨rfl, a1, a2, a3⟩⟩
  clear htx HW
  obtain ⟨di, hdi, hways⟩ := hways
  have HDI := Lib.hid hdi
  clear hdi
  have t4 : (di = true ∧ x.toList = [] ∧ x.toList.isEmpty = true) ∨ (di = true ∧ x.toList.isEmpty = false ∧ ¬ x.toList = [] ∧ (x.toList == [46]) = true) ∨ (di = true ∧ x.toList.isEmpty = false ∧ ¬ x.toList = [] ∧ (x.toList == [46]) = false ∧ (x.toList == [46, 46]) = true) ∨ (di = false ∧ x.toList.isEmpty = false ∧ ¬ x.toList = [] ∧ (x.toList == [46]) = false ∧ (x.toList == [46, 46]) = false) := by
    rcases hways with ⟨rfl, h1 | h1 | h1⟩ | ⟨rfl, h1, h2, h3⟩
    · left; rw [h1]; exact ⟨rfl, rfl, rfl⟩
    · right; left; rw [h1]; exact ⟨rfl, rfl, by simp, rfl⟩
    · right; right; left; rw [h1]; exact ⟨rfl, rfl, by simp, rfl, rfl⟩
    · right; right; right; exact ⟨rfl, by simp [h1], h1, by simp [h2], by simp [h3]⟩
  clear hways
  rcases t4 with ⟨rfl, q1, q2⟩ | ⟨rfl, q1, q2, q3⟩ | ⟨rfl, q1, q2, q3, q4⟩ | ⟨rfl, q1, q2, q3, q4⟩
  all_goals
    go_wp2_with fail
    try clear q4
    try clear q3
    clear q1 q2 hlast
    go_loopw [34] (fun k wr => ∃ (j : Nat) (v : Value) (b : Bool), j ≤ M + 1 ∧ k = .int .i64 j ∧ dirB l = b ∧ InLoop 25 w' wr ab b v (P.take j)) (fun k _ => M + 1 - (intOf k).toNat)
    case atStart => exact ⟨0, _, _, by omega, rfl, HDI.out, inLoop_start _ w' ab _⟩
    case round =>
      obtain ⟨j, v, b, hj, rfl, hb, hI⟩ := hrel
      have HI := Lib.hid hI
      have HB := Lib.hid hb
      obtain ⟨a, cp, hv, _, hcp1, hcp2⟩ := hI.2.1.reads
      rw [strsV_length] at hv hcp1
      subst hv
      obtain ⟨c0, c1, c2, f0, f1, f2, hz⟩ := kept3_of (t := 25) hI.1
      have hrw : wr.heap[w.heap.size]? = some (.cells #[.bool false, .bool false, .slice none 0 0] 25 (0, 0)) := by rw [hI.2.2.1.block _ hz2]; exact HKEEP.out
      have HRW := Lib.hid hrw
      obtain ⟨r0, r1, r2, g0, g1, g2, hzr⟩ := kept3_of (t := 25) hrw
      clear hrw
      clear hI hb
      have hz' : w'.heap.size < wr.heap.size := hz
      have hzr' : w.heap.size < wr.heap.size := hzr
      have hBW : Below w.heap.size w wr := HB1.out.trans (HI.out.2.2.1.mono (Nat.le_of_lt hz2))
      have HBW := Lib.hid hBW
      clear hBW hz hzr
      by_cases hlt : j < M + 1
      · obtain ⟨p, hp⟩ : ∃ p, P[j]? = some p := ⟨_, List.getElem?_eq_getElem (by have := HPL.out; omega)⟩
        obtain ⟨y, hy⟩ : ∃ y : ByteArray, y = ⟨p.toArray⟩ := ⟨_, rfl⟩
        have hyl : y.data.toList = p := by rw [hy]
        have hcell : wr.cell? ⟨w.heap.size + 1, j, none⟩ = some (.string y) := by
          rw [HI.out.2.2.1.cell (p := ⟨w.heap.size + 1, j, none⟩) hz1, hy]; exact HROW.out j p hp
        have hty := txt_tests hyl
        have hmem : p ∈ pieces l := by rw [HP.out]; exact List.mem_of_getElem? hp
        have htk : P.take (j + 1) = P.take j ++ [p] := by rw [List.take_add_one, hp]; rfl
        have hlt2 : (j : Int) < (M : Int) + 1 := by omega
        have hysz : y.size = p.length := by rw [Lib.size_eq, hyl]
        have HY := Lib.hid hy
        have HYL := Lib.hid hyl
        have HTK := Lib.hid htk
        have HMEM := Lib.hid hmem
        have HYS := Lib.hid hysz
        clear hp hy hyl htk hmem hysz
        cases hk : keptB p with
        | false =>
          have HSK := Lib.hid (inLoop_skip HI.out hk)
          have hk2 : y.toList = [] ∨ (y.toList.isEmpty = false ∧ ¬ y.toList = [] ∧ (y.toList == [46]) = true) := by
            rw [hty]
            unfold keptB at hk
            by_cases h1 : p = []
            · exact .inl h1
            · right
              have : p = [46] := by simpa [h1] using hk
              rw [this]; exact ⟨rfl, by simp, rfl⟩
          clear hk hty
          rcases hk2 with k1 | ⟨k1, k2, k3⟩
          all_goals
            go_wp2
            go_roundw
            case rel => exact ⟨j + 1, _, b, by omega, by go_num, HB.out, by rw [HTK.out]; exact HSK.out⟩
            case measure => simp [intOf]; omega
        | true =>
          obtain ⟨k1, k2⟩ := keptB_iff.1 hk
          have t1 : ¬ y.toList = [] := by rw [hty]; exact k1
          have t2 : y.toList.isEmpty = false := by cases h : y.toList with | nil => exact absurd h t1 | cons => rfl
          have t3 : (y.toList == [46]) = false := by rw [hty]; simp [k2]
          have hge := goodE_piece (refE_good HX.out).1 HMEM.out hk
          have HK := Lib.hid hk
          clear k1 k2 hk hty
          have hfy : Fit y := by
            have h1 := (pieces_mem HMEM.out).2
            have h2 : p.length ≤ 255 := by
              have h3 := pieces_weigh l
              have h4 : p.length + 1 ≤ weighL (pieces l) := by
                have := weighL_sub (P := [p]) (Q := pieces l) (List.singleton_sublist.2 HMEM.out)
                rw [weighL_cons, weighL_nil] at this; omega
              have h5 := (refE_good HX.out).2.2
              omega
            unfold Fit; rw [HYS.out]; omega
          have HFY := Lib.hid hfy
          clear hfy
          by_cases h26 : 26 < p.length
          · rw [if_pos h26] at hge
            have HGE := Lib.hid hge
            have HPE := Lib.hid (parse_long HX.out HMEM.out HK.out h26)
            clear hge
            go_wp2_with fail
            refine (good_is y _ HFY.out).mono ?_
            rintro e w3 ⟨rfl, c3⟩
            rw [HYL.out, HGE.out]
            have HB3 : Hid (Below w.heap.size w w3) := HBW.out.trans (c3.mono HBW.out.size)
            obtain ⟨s0, s1, s2, v0, v1, v2, vz⟩ := (Kept3.below ⟨r0, r1, r2, g0, g1, g2, hzr'⟩ c3)
            have hrw3 : w3.heap[w.heap.size]? = some (.cells #[.bool false, .bool false, .slice none 0 0] 25 (0, 0)) := by rw [c3.block _ hzr']; exact HRW.out
            obtain ⟨o0, o1, o2⟩ := box_over hrw3 (.bool false) (.bool false) (.slice none 0 0)
            clear c3 r0 r1 r2 g0 g1 g2 c0 c1 c2 f0 f1 f2 hrw3
            go_wp2
            refine bodyPost_ret (v := .tuple #[.agg #[.bool false, .bool false, .slice none 0 0], .int .i64 9]) (by simp [results, Tryd.results5, go_sem, o0, o1, o2]) rfl (fin_no HPE.out (by decide) ?_)
            exact below_over HB3.out (Nat.le_refl _) _ _ _
          · rw [if_neg h26] at hge
            have HGE := Lib.hid hge
            clear hge
            go_wp2_with fail
            refine (good_is y _ HFY.out).mono ?_
            rintro e w3 ⟨rfl, c3⟩
            rw [HYL.out, HGE.out]
            have hI3 := inLoop_below HI.out c3
            obtain ⟨d0, d1, d2, k0, k1, k2, kz⟩ := kept3_of (t := 25) hI3.1
            have kz' : w'.heap.size < w3.heap.size := kz
            have HI3 := Lib.hid (inLoop_below hI3 (below_box w3 (.cells #[.string y] 9)))
            have HRD : Hid (ReadsV (w3.alloc (.cells #[.string y] 9)) (some ⟨w3.heap.size, 0, none⟩) 1 (strsV [p])) := by
              have h1 := ReadsV.lit w3 #[.string y] 9
              rw [HY.out] at h1 ⊢
              exact h1
            have hlen : (keepL (P.take j)).length ≤ 256 := by
              have h1 : (keepL (P.take j)).length ≤ (P.take j).length := List.length_filter_le _ _
              rw [List.length_take] at h1; omega
            have HLEN := Lib.hid hlen
            have HBS : Hid (w'.heap.size + 1 ≤ (w3.alloc (.cells #[.string y] 9)).heap.size) := by show _ ≤ _; simp; omega
            clear c3 r0 r1 r2 g0 g1 g2 c0 c1 c2 f0 f1 f2 hI3 kz hlen
            go_wp2_with (at_builtin; refine wpList_append_vals rfl _ _ _ rfl (w'.heap.size + 1) 9 _ 16 Tryd.underlying23 info_str rfl _ (strsV (keepL (P.take j))) rfl HI3.out.2.1 (some ⟨w3.heap.size, 0, none⟩) 1 1 rfl (strsV [p]) HRD.out (strsV_one [p]) (by have := HLEN.out; rw [strsV_length]; omega) (by have := HLEN.out; unfold maxLen; rw [strsV_length]; omega) HBS.out ?_; intro v4 w4 h1' h2'; have hadd := inLoop_add HI3.out HK.out (by omega) h1' h2'; have hrow4 := row_grown HI3.out h2'; obtain ⟨a4, cp4, hv4, _, _, _⟩ := OwnsV.reads h1'; obtain ⟨n4, hn4⟩ : ∃ n4, (strsV (keepL (P.take j)) ++ strsV [p]).length = n4 := ⟨_, rfl⟩; rw [hn4] at hv4; clear hn4; subst hv4; have HADD := Lib.hid hadd; obtain ⟨x0, x1, x2, y0, y1, y2, yz⟩ := kept3_of (t := 25) hrow4; clear h1' h2' hadd hrow4)
            go_roundw
            case rel => exact ⟨j + 1, _, b, by omega, by go_num, HB.out, by rw [HTK.out]; exact HADD.out⟩
            case measure => simp [intOf]; omega
      · have hjM : j = M + 1 := by omega
        have hall : P.take j = P := List.take_of_length_le (by have := HPL.out; omega)
        have hparts : keepL (P.take j) = partsOf l := by rw [hall, ← HP.out]; rfl
        have HPT := Lib.hid hparts
        have hge2 : ¬ ((j : Int) < (M : Int) + 1) := by omega
        clear hall hparts hjM
        by_cases h32 : 32 < (keepL (P.take j)).length
        · have HPE := Lib.hid (parse_many HX.out (by rw [← HPT.out]; exact h32))
          have h32' : (32 : Int) < ((keepL (P.take j)).length : Int) := by omega
          obtain ⟨o0, o1, o2⟩ := box_over HRW.out (.bool false) (.bool false) (.slice none 0 0)
          go_wp2
          refine bodyPost_ret (v := .tuple #[.agg #[.bool false, .bool false, .slice none 0 0], .int .i64 9]) (by simp [results, Tryd.results5, go_sem, o0, o1, o2]) rfl (fin_no HPE.out (by decide) ?_)
          exact below_over HBW.out (Nat.le_refl _) _ _ _
        · have HPE : Hid (parseE l = 0) := parse_ok HX.out (by rw [← HPT.out]; exact HI.out.2.2.2) (by rw [← HPT.out]; omega)
          have h32' : ¬ (32 : Int) < ((keepL (P.take j)).length : Int) := by omega
          obtain ⟨o0, o1, o2⟩ := box_over HRW.out (.bool ab) (.bool b) (.slice a (keepL (P.take j)).length cp)
          go_wp2
          refine bodyPost_ret (v := .tuple #[.agg #[.bool ab, .bool b, .slice a (keepL (P.take j)).length cp], .int .i64 0]) (by simp [results, Tryd.results5, go_sem, o0, o1, o2]) rfl (fin_yes HPE.out HABB.out HB.out ?_ ?_)
          · rw [← HPT.out]
            exact (owns_over HI.out.2.1 (by omega) _ _ _).less (by omega)
          · exact below_over HBW.out (Nat.le_refl _) _ _ _

theorem pparse_is (s : ByteArray) (w : World) : Calls Tryd.prog 5 #[.string s] w (ParsePost s.data.toList w) := by
  by_cases h : refE s.data.toList = 0
  · exact pparse_good s w h
  · exact pparse_refused s w h
end Go.Proofs.YtpnafikmbbnecaaDoor
