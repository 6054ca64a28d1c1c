/- A path's text, by the program's walk. -/
import Derived.Test.YtpnafikmbbnecaaDoorPParse3
namespace Go.Proofs.YtpnafikmbbnecaaDoor
open Go.RowKit Go.Sort
set_option linter.unusedVariables false
set_option linter.unusedSimpArgs false
set_option maxRecDepth 100000

theorem app_app (l m : Bs) : (⟨l.toArray⟩ : ByteArray) ++ ⟨m.toArray⟩ = ⟨(l ++ m).toArray⟩ := by
  apply ByteArray.ext
  rw [ByteArray.data_append]
  simp
theorem join_joinS : ∀ Q : List Bs, Lib.join Q [47] = joinS Q
  | [] => rfl
  | [p] => by rw [Lib.join_one]; rfl
  | p :: q :: r => by
    have ih := join_joinS (q :: r)
    rw [Lib.join_cons] at ih ⊢
    unfold Lib.joinTail at ih ⊢
    rw [joinS, ← ih]
    simp
theorem strs_map (Q : List Bs) : (Q.map fun p => (⟨p.toArray⟩ : ByteArray)).map (·.data.toList) = Q := by
  rw [List.map_map]
  exact List.map_id'' (fun p => rfl) Q
theorem join_is (a : Option Addr) (cp : Nat) (Q : List Bs) (w : World) (hr : ReadsV w a Q.length (strsV Q)) (hcp : Q.length ≤ cp) (hw : weighL Q ≤ 1000) :
    Calls Tryd.prog 18 #[.slice a Q.length cp, .string ⟨#[47]⟩] w fun e w' => e = .returned (strV (joinS Q)) ∧ Below w.heap.size w w' := by
  obtain ⟨h1, h2⟩ := hr
  by_cases h0 : Q = []
  · subst h0
    refine (Tryd.strings_Join_none a cp ⟨#[47]⟩ w).mono ?_
    rintro e w' ⟨he, hw'⟩
    exact ⟨he, by rw [hw']; exact Below.refl _ _⟩
  · rcases h2 with h2 | ⟨b, off, rfl, hb, hc⟩
    · exact absurd (List.map_eq_nil_iff.1 h2) h0
    · have hlen := joinS_length Q h0
      have hql : Q.length ≤ weighL Q := by
        clear h0 hlen h1 hc hcp hw
        induction Q with
        | nil => exact Nat.le_refl _
        | cons q Q ih => rw [weighL_cons, List.length_cons]; omega
      have hjl : (Lib.join ((Q.map fun p => (⟨p.toArray⟩ : ByteArray)).map (·.data.toList)) (⟨#[47]⟩ : ByteArray).data.toList).length ≤ 140737488355328 := by
        rw [strs_map]
        have e : (⟨#[47]⟩ : ByteArray).data.toList = [47] := rfl
        rw [e, join_joinS]; omega
      have c := Tryd.strings_Join b off cp (Q.map fun p => (⟨p.toArray⟩ : ByteArray)) ⟨#[47]⟩ w (fun j x hx => hc j _ (by
          rw [List.getElem?_map] at hx
          unfold strsV
          rw [List.getElem?_map]
          cases hq : Q[j]? with
          | none => rw [hq] at hx; cases hx
          | some q => rw [hq] at hx; cases hx; rfl)) hb (by rw [List.length_map]; omega) (by rw [List.length_map]; exact hcp) hjl
      rw [List.length_map] at c
      refine c.mono ?_
      rintro e w' ⟨he, hb'⟩
      refine ⟨?_, hb'⟩
      rw [he, strs_map]
      have e : (⟨#[47]⟩ : ByteArray).data.toList = [47] := rfl
      rw [e, join_joinS]
      rfl
set_option maxHeartbeats 1600000 in
theorem endsUp_is (ab di : Bool) (a : Option Addr) (cp : Nat) (Q : List Bs) (w : World) (hr : ReadsV w a Q.length (strsV Q)) (hq : Q.length ≤ 1000) :
    Calls Tryd.prog 19 #[.agg #[.bool ab, .bool di, .slice a Q.length cp]] w fun e w' => e = .returned (.bool (endsUp Q)) ∧ Below w.heap.size w w' := by
  by_cases h0 : Q = []
  · subst h0
    go_enter Tryd.func19, Tryd.ntmps19
    go_wp2
    go_ret
    exact ⟨rfl, below_box w _⟩
  · obtain ⟨D, p, hD⟩ := last_split h0
    obtain ⟨M, hM⟩ : ∃ M, D.length = M := ⟨_, rfl⟩
    have hl : Q.length = M + 1 := by rw [hD, List.length_append, hM]; rfl
    have hget : Q[M]? = some p := by rw [hD, ← hM]; simp
    obtain ⟨x, hx⟩ : ∃ x : ByteArray, x = ⟨p.toArray⟩ := ⟨_, rfl⟩
    have hxl : x.data.toList = p := by rw [hx]
    obtain ⟨g, off, ha, hg, hc⟩ := hr.at (strsV_get hget)
    have hcell : w.cell? ⟨g, off + M, none⟩ = some (.string x) := by rw [hc, hx]; rfl
    have hxt := txt_tests hxl
    have hE : endsUp Q = (x.toList == [46, 46]) := by
      rw [hxt]; unfold endsUp; rw [hD]; simp
    subst ha
    rw [hl, hE]
    obtain ⟨q, hqq⟩ : ∃ q, (x.toList == [46, 46]) = q := ⟨_, rfl⟩
    rw [hqq]
    have hMb : M ≤ 1000 := by omega
    have hMb2 : (M : Int) ≤ 1000 := by omega
    clear h0 hl hD hM hget hx hxl hc hxt hE hr hq
    go_enter Tryd.func19, Tryd.ntmps19
    go_wp2
    go_ret
    exact ⟨rfl, below_box w _⟩

/-- The text, by its ways. -/
theorem text_cases (ab di : Bool) (Q : List Bs) : textL ab di Q = if (!di || endsUp Q) = true then absT ab Q else if Q ≠ [] then absT ab Q ++ [47] else if ab = true then absT ab Q else [46] := rfl
set_option maxHeartbeats 6400000 in
theorem ptext_is (ab di : Bool) (a : Option Addr) (cp : Nat) (Q : List Bs) (w : World) (hr : ReadsV w a Q.length (strsV Q)) (hcp : Q.length ≤ cp) (hw : weighL Q ≤ 1000) :
    Calls Tryd.prog 12 #[.agg #[.bool ab, .bool di, .slice a Q.length cp]] w fun e w' => e = .returned (strV (textL ab di Q)) ∧ Below w.heap.size w w' := by
  have fin : ∀ (v : Value) (w' : World), strV (textL ab di Q) = v → Below w.heap.size w w' → Ending.returned v = .returned (strV (textL ab di Q)) ∧ Below w.heap.size w w' := fun v w' h1 h2 => ⟨by rw [h1], h2⟩
  have hql : Q.length ≤ weighL Q := by
    have : ∀ P : List Bs, P.length ≤ weighL P := by
      intro P; induction P with
      | nil => exact Nat.le_refl _
      | cons q P ih => rw [weighL_cons, List.length_cons]; omega
    exact this Q
  have hq : Q.length ≤ 1000 := by omega
  have HJ : Hid (∀ o, Calls Tryd.prog 18 #[.slice a Q.length cp, .string ⟨#[47]⟩] (w.alloc o) fun e w' => e = .returned (strV (joinS Q)) ∧ Below (w.alloc o).heap.size (w.alloc o) w') := fun o => join_is a cp Q _ (hr.alloc o) hcp hw
  have HR := Lib.hid hr
  obtain ⟨x, hx⟩ : ∃ x : ByteArray, x = ⟨(joinS Q).toArray⟩ := ⟨_, rfl⟩
  have hxv : strV (joinS Q) = .string x := by rw [hx]; rfl
  have hxs : x.size ≤ 1000 := by
    rw [hx]
    show (joinS Q).length ≤ 1000
    by_cases h0 : Q = []
    · subst h0; decide
    · have := joinS_length Q h0; omega
  have hy1 : (⟨#[47]⟩ : ByteArray) ++ x = ⟨(47 :: joinS Q).toArray⟩ := by rw [hx]; exact app_app [47] (joinS Q)
  obtain ⟨y, hy⟩ : ∃ y : ByteArray, (⟨#[47]⟩ : ByteArray) ++ x = y := ⟨_, rfl⟩
  have hyv : strV (47 :: joinS Q) = .string y := by rw [← hy, hy1]; rfl
  have hys : y.size ≤ 1001 := by rw [← hy, ByteArray.size_append]; show 1 + x.size ≤ 1001; omega
  obtain ⟨z1, hz1⟩ : ∃ z : ByteArray, y ++ ⟨#[47]⟩ = z := ⟨_, rfl⟩
  obtain ⟨z2, hz2⟩ : ∃ z : ByteArray, x ++ ⟨#[47]⟩ = z := ⟨_, rfl⟩
  have hz1v : strV ((47 :: joinS Q) ++ [47]) = .string z1 := by rw [← hz1, ← hy, hy1]; exact congrArg Value.string (app_app _ [47]).symm
  have hz2v : strV (joinS Q ++ [47]) = .string z2 := by rw [← hz2, hx]; exact congrArg Value.string (app_app _ [47]).symm
  have HXV := Lib.hid hxv
  have HTC := Lib.hid (text_cases ab di Q)
  have HFIN := Lib.hid fin
  have HU := Lib.hid (fun (o : Obj) (b1 b2 : Bool) (W : World) (hb : Below w.heap.size w W) => endsUp_is b1 b2 a cp Q W (hr.below hb) hq)
  have hbd : (1 : Int) + (x.size : Int) ≤ 9223372036854775807 := by omega
  have hbd2 : (x.size : Int) + 1 ≤ 9223372036854775807 := by omega
  have hbd3 : (y.size : Int) + 1 ≤ 9223372036854775807 := by omega
  clear hx hr hcp hw hql fin hxv hy1
  by_cases h0 : Q = []
  · have HN0 := Lib.hid h0
    have HUU : Hid (endsUp Q = false) := by show _ = _; rw [h0]; rfl
    have hnz : Q.length = 0 := by rw [h0]; rfl
    rw [hnz] at HJ HU ⊢
    clear h0 hnz
    cases ab <;> cases di
    · have E : Hid (strV (textL false false Q) = .string x) := by
        show _ = _
        rw [text_cases, if_pos (by rfl)]
        exact HXV.out
      clear hyv hz1v hz2v
      go_enter Tryd.func12, Tryd.ntmps12
      go_wp2_with fail
      refine (HJ.out _).mono ?_
      rintro e w1 ⟨rfl, c1⟩
      rw [HXV.out]
      have B1 : Hid (Below w.heap.size w w1) := below_next (below_box w _) c1
      obtain ⟨d0, d1, d2, _, _, _, hz⟩ := kept3 c1
      have hz' : w.heap.size < w1.heap.size := hz
      clear c1 hz
      go_wp2
      go_ret
      exact HFIN.out _ _ E.out B1.out
    · have E : Hid (strV (textL false true Q) = .string ⟨#[46]⟩) := by
        show _ = _
        rw [text_cases, if_neg (by rw [HUU.out]; decide), if_neg (by rw [HN0.out]; simp), if_neg (by decide)]
        rfl
      clear hyv hz1v hz2v
      go_enter Tryd.func12, Tryd.ntmps12
      go_wp2_with fail
      refine (HJ.out _).mono ?_
      rintro e w1 ⟨rfl, c1⟩
      rw [HXV.out]
      have B1 : Hid (Below w.heap.size w w1) := below_next (below_box w _) c1
      obtain ⟨d0, d1, d2, _, _, _, hz⟩ := kept3 c1
      have hz' : w.heap.size < w1.heap.size := hz
      clear c1 hz
      go_wp2_with fail
      refine (HU.out (.cells #[] 0) _ _ _ B1.out).mono ?_
      rintro e w2 ⟨rfl, c2⟩
      rw [HUU.out]
      have B2 : Hid (Below w.heap.size w w2) := below_next B1.out c2
      obtain ⟨e0, e1, e2, _, _, _, hz2⟩ := Kept3.below ⟨d0, d1, d2, by assumption, by assumption, by assumption, hz'⟩ c2
      have hz2' : w.heap.size < w2.heap.size := hz2
      clear c2 d0 d1 d2
      go_wp2
      go_ret
      exact HFIN.out _ _ E.out B2.out
    · have E : Hid (strV (textL true false Q) = .string y) := by
        show _ = _
        rw [text_cases, if_pos (by rfl)]
        exact hyv
      clear hyv hz1v hz2v
      go_enter Tryd.func12, Tryd.ntmps12
      go_wp2_with fail
      refine (HJ.out _).mono ?_
      rintro e w1 ⟨rfl, c1⟩
      rw [HXV.out]
      have B1 : Hid (Below w.heap.size w w1) := below_next (below_box w _) c1
      obtain ⟨d0, d1, d2, _, _, _, hz⟩ := kept3 c1
      have hz' : w.heap.size < w1.heap.size := hz
      clear c1 hz
      go_wp2
      go_ret
      exact HFIN.out _ _ E.out B1.out
    · have E : Hid (strV (textL true true Q) = .string y) := by
        show _ = _
        rw [text_cases, if_neg (by rw [HUU.out]; decide), if_neg (by rw [HN0.out]; simp), if_pos rfl]
        exact hyv
      clear hyv hz1v hz2v
      go_enter Tryd.func12, Tryd.ntmps12
      go_wp2_with fail
      refine (HJ.out _).mono ?_
      rintro e w1 ⟨rfl, c1⟩
      rw [HXV.out]
      have B1 : Hid (Below w.heap.size w w1) := below_next (below_box w _) c1
      obtain ⟨d0, d1, d2, _, _, _, hz⟩ := kept3 c1
      have hz' : w.heap.size < w1.heap.size := hz
      clear c1 hz
      go_wp2_with fail
      refine (HU.out (.cells #[] 0) _ _ _ B1.out).mono ?_
      rintro e w2 ⟨rfl, c2⟩
      rw [HUU.out]
      have B2 : Hid (Below w.heap.size w w2) := below_next B1.out c2
      obtain ⟨e0, e1, e2, _, _, _, hz2⟩ := Kept3.below ⟨d0, d1, d2, by assumption, by assumption, by assumption, hz'⟩ c2
      have hz2' : w.heap.size < w2.heap.size := hz2
      clear c2 d0 d1 d2
      go_wp2
      go_ret
      exact HFIN.out _ _ E.out B2.out
  · have hn : 0 < Q.length := by cases Q with | nil => exact absurd rfl h0 | cons => simp
    have hn2 : (0 : Int) < (Q.length : Int) := by omega
    have HN0 := Lib.hid h0
    clear h0
    cases hu : endsUp Q
    · have HUU := Lib.hid hu
      clear hu
      cases ab <;> cases di
      · have E : Hid (strV (textL false false Q) = .string x) := by
          show _ = _
          rw [text_cases, if_pos (by rfl)]
          exact HXV.out
        clear hyv hz1v hz2v
        go_enter Tryd.func12, Tryd.ntmps12
        go_wp2_with fail
        refine (HJ.out _).mono ?_
        rintro e w1 ⟨rfl, c1⟩
        rw [HXV.out]
        have B1 : Hid (Below w.heap.size w w1) := below_next (below_box w _) c1
        obtain ⟨d0, d1, d2, _, _, _, hz⟩ := kept3 c1
        have hz' : w.heap.size < w1.heap.size := hz
        clear c1 hz
        go_wp2
        go_ret
        exact HFIN.out _ _ E.out B1.out
      · have E : Hid (strV (textL false true Q) = .string z2) := by
          show _ = _
          rw [text_cases, if_neg (by rw [HUU.out]; decide), if_pos HN0.out]
          exact hz2v
        clear hyv hz1v hz2v
        go_enter Tryd.func12, Tryd.ntmps12
        go_wp2_with fail
        refine (HJ.out _).mono ?_
        rintro e w1 ⟨rfl, c1⟩
        rw [HXV.out]
        have B1 : Hid (Below w.heap.size w w1) := below_next (below_box w _) c1
        obtain ⟨d0, d1, d2, _, _, _, hz⟩ := kept3 c1
        have hz' : w.heap.size < w1.heap.size := hz
        clear c1 hz
        go_wp2_with fail
        refine (HU.out (.cells #[] 0) _ _ _ B1.out).mono ?_
        rintro e w2 ⟨rfl, c2⟩
        rw [HUU.out]
        have B2 : Hid (Below w.heap.size w w2) := below_next B1.out c2
        obtain ⟨e0, e1, e2, _, _, _, hz2⟩ := Kept3.below ⟨d0, d1, d2, by assumption, by assumption, by assumption, hz'⟩ c2
        have hz2' : w.heap.size < w2.heap.size := hz2
        clear c2 d0 d1 d2
        go_wp2
        go_ret
        exact HFIN.out _ _ E.out B2.out
      · have E : Hid (strV (textL true false Q) = .string y) := by
          show _ = _
          rw [text_cases, if_pos (by rfl)]
          exact hyv
        clear hyv hz1v hz2v
        go_enter Tryd.func12, Tryd.ntmps12
        go_wp2_with fail
        refine (HJ.out _).mono ?_
        rintro e w1 ⟨rfl, c1⟩
        rw [HXV.out]
        have B1 : Hid (Below w.heap.size w w1) := below_next (below_box w _) c1
        obtain ⟨d0, d1, d2, _, _, _, hz⟩ := kept3 c1
        have hz' : w.heap.size < w1.heap.size := hz
        clear c1 hz
        go_wp2
        go_ret
        exact HFIN.out _ _ E.out B1.out
      · have E : Hid (strV (textL true true Q) = .string z1) := by
          show _ = _
          rw [text_cases, if_neg (by rw [HUU.out]; decide), if_pos HN0.out]
          exact hz1v
        clear hyv hz1v hz2v
        go_enter Tryd.func12, Tryd.ntmps12
        go_wp2_with fail
        refine (HJ.out _).mono ?_
        rintro e w1 ⟨rfl, c1⟩
        rw [HXV.out]
        have B1 : Hid (Below w.heap.size w w1) := below_next (below_box w _) c1
        obtain ⟨d0, d1, d2, _, _, _, hz⟩ := kept3 c1
        have hz' : w.heap.size < w1.heap.size := hz
        clear c1 hz
        go_wp2_with fail
        refine (HU.out (.cells #[] 0) _ _ _ B1.out).mono ?_
        rintro e w2 ⟨rfl, c2⟩
        rw [HUU.out]
        have B2 : Hid (Below w.heap.size w w2) := below_next B1.out c2
        obtain ⟨e0, e1, e2, _, _, _, hz2⟩ := Kept3.below ⟨d0, d1, d2, by assumption, by assumption, by assumption, hz'⟩ c2
        have hz2' : w.heap.size < w2.heap.size := hz2
        clear c2 d0 d1 d2
        go_wp2
        go_ret
        exact HFIN.out _ _ E.out B2.out
    · have HUU := Lib.hid hu
      clear hu
      cases ab <;> cases di
      · have E : Hid (strV (textL false false Q) = .string x) := by
          show _ = _
          rw [text_cases, if_pos (by rfl)]
          exact HXV.out
        clear hyv hz1v hz2v
        go_enter Tryd.func12, Tryd.ntmps12
        go_wp2_with fail
        refine (HJ.out _).mono ?_
        rintro e w1 ⟨rfl, c1⟩
        rw [HXV.out]
        have B1 : Hid (Below w.heap.size w w1) := below_next (below_box w _) c1
        obtain ⟨d0, d1, d2, _, _, _, hz⟩ := kept3 c1
        have hz' : w.heap.size < w1.heap.size := hz
        clear c1 hz
        go_wp2
        go_ret
        exact HFIN.out _ _ E.out B1.out
      · have E : Hid (strV (textL false true Q) = .string x) := by
          show _ = _
          rw [text_cases, if_pos (by rw [HUU.out]; rfl)]
          exact HXV.out
        clear hyv hz1v hz2v
        go_enter Tryd.func12, Tryd.ntmps12
        go_wp2_with fail
        refine (HJ.out _).mono ?_
        rintro e w1 ⟨rfl, c1⟩
        rw [HXV.out]
        have B1 : Hid (Below w.heap.size w w1) := below_next (below_box w _) c1
        obtain ⟨d0, d1, d2, _, _, _, hz⟩ := kept3 c1
        have hz' : w.heap.size < w1.heap.size := hz
        clear c1 hz
        go_wp2_with fail
        refine (HU.out (.cells #[] 0) _ _ _ B1.out).mono ?_
        rintro e w2 ⟨rfl, c2⟩
        rw [HUU.out]
        have B2 : Hid (Below w.heap.size w w2) := below_next B1.out c2
        obtain ⟨e0, e1, e2, _, _, _, hz2⟩ := Kept3.below ⟨d0, d1, d2, by assumption, by assumption, by assumption, hz'⟩ c2
        have hz2' : w.heap.size < w2.heap.size := hz2
        clear c2 d0 d1 d2
        go_wp2
        go_ret
        exact HFIN.out _ _ E.out B2.out
      · have E : Hid (strV (textL true false Q) = .string y) := by
          show _ = _
          rw [text_cases, if_pos (by rfl)]
          exact hyv
        clear hyv hz1v hz2v
        go_enter Tryd.func12, Tryd.ntmps12
        go_wp2_with fail
        refine (HJ.out _).mono ?_
        rintro e w1 ⟨rfl, c1⟩
        rw [HXV.out]
        have B1 : Hid (Below w.heap.size w w1) := below_next (below_box w _) c1
        obtain ⟨d0, d1, d2, _, _, _, hz⟩ := kept3 c1
        have hz' : w.heap.size < w1.heap.size := hz
        clear c1 hz
        go_wp2
        go_ret
        exact HFIN.out _ _ E.out B1.out
      · have E : Hid (strV (textL true true Q) = .string y) := by
          show _ = _
          rw [text_cases, if_pos (by rw [HUU.out]; rfl)]
          exact hyv
        clear hyv hz1v hz2v
        go_enter Tryd.func12, Tryd.ntmps12
        go_wp2_with fail
        refine (HJ.out _).mono ?_
        rintro e w1 ⟨rfl, c1⟩
        rw [HXV.out]
        have B1 : Hid (Below w.heap.size w w1) := below_next (below_box w _) c1
        obtain ⟨d0, d1, d2, _, _, _, hz⟩ := kept3 c1
        have hz' : w.heap.size < w1.heap.size := hz
        clear c1 hz
        go_wp2_with fail
        refine (HU.out (.cells #[] 0) _ _ _ B1.out).mono ?_
        rintro e w2 ⟨rfl, c2⟩
        rw [HUU.out]
        have B2 : Hid (Below w.heap.size w w2) := below_next B1.out c2
        obtain ⟨e0, e1, e2, _, _, _, hz2⟩ := Kept3.below ⟨d0, d1, d2, by assumption, by assumption, by assumption, hz'⟩ c2
        have hz2' : w.heap.size < w2.heap.size := hz2
        clear c2 d0 d1 d2
        go_wp2
        go_ret
        exact HFIN.out _ _ E.out B2.out
end Go.Proofs.YtpnafikmbbnecaaDoor
