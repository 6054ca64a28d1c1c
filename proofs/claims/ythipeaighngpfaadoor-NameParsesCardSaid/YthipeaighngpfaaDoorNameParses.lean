/- The law NameParses is true for every input: a path has just the parts that the document says, and is read of its text again. No condition but that the tables of Go's own library that the row lists read as they are laid. -/
import Derived.Test.YthipeaighngpfaaDoorNameLaw
import Derived.Test.YthipeaighngpfaaDoorLaid
import Derived.Test.YthipeaighngpfaaDoorCards
import Derived.Test.YthipeaighngpfaaDoorTie
import Derived.SevenTiedAt
import Derived.Lay
namespace Go.Proofs.YthipeaighngpfaaDoor
open Go.ChangeShapes Go.WideShapes Go.ChangeAt Go.RowKit Go.Sort
open Go.ChangeMaps (open_string)
set_option linter.unusedVariables false
set_option linter.unusedSimpArgs false
set_option maxRecDepth 100000

theorem awake8_path : parseE [47, 97, 47, 47, 46, 47, 98, 47] = 0 ∧ pAbs [47, 97, 47, 47, 46, 47, 98, 47] = true ∧ pDir [47, 97, 47, 47, 46, 47, 98, 47] = true ∧ pParts [47, 97, 47, 47, 46, 47, 98, 47] = [[97], [98]] ∧ textL true true [[97], [98]] = [47, 97, 47, 98, 47] := by decide
set_option maxHeartbeats 3200000 in
theorem awake8_true (w : World) : Calls Tryd.prog 27 #[] w fun e w' => e = .returned (.bool true) ∧ Below w.heap.size w w' := by
  obtain ⟨f0, f1, f2, f3, f4⟩ := awake8_path
  have hp := pparse_is ⟨#[47, 97, 47, 47, 46, 47, 98, 47]⟩ w
  have el : (⟨#[47, 97, 47, 47, 46, 47, 98, 47]⟩ : ByteArray).data.toList = [47, 97, 47, 47, 46, 47, 98, 47] := rfl
  rw [el] at hp
  have HP := Lib.hid hp
  have F0 := Lib.hid f0
  have F1 := Lib.hid f1
  have F2 := Lib.hid f2
  have F3 := Lib.hid f3
  have F4 := Lib.hid f4
  clear f0 f1 f2 f3 f4 hp el
  go_enter Tryd.func27, Tryd.ntmps27
  go_wp2_with fail
  refine HP.out.mono ?_
  rintro e w1 hpp
  obtain ⟨a, cp, rfl, hr, h1, h2, hb⟩ := hpp.path
  rw [F0.out, F1.out, F2.out]
  rw [F3.out] at hr h1 ⊢
  have e2 : ([[97], [98]] : List Bs).length = 2 := rfl
  rw [e2] at hr h1 ⊢
  have HT : Hid (∀ W : World, Below w1.heap.size w1 W → Calls Tryd.prog 33 #[.agg #[.bool true, .bool true, .slice a 2 cp]] W fun e w' => e = .returned (.string ⟨#[47, 97, 47, 98, 47]⟩) ∧ Below W.heap.size W w') := fun W hW => by
    have := ptext_is true true a cp [[97], [98]] W (hr.below hW) h1 (by decide)
    rw [F4.out] at this
    exact this
  have HB : Hid (Below w.heap.size w (w1.alloc (.cells #[.bool true, .bool true, .slice a 2 cp] 57))) := below_next hb (below_box w1 _)
  clear hr h1 h2 hb e2
  go_wp2_with fail
  refine (HT.out _ (below_box w1 _)).mono ?_
  rintro e w2 ⟨rfl, c2⟩
  have HB2 := Lib.hid (below_next HB.out c2)
  clear c2
  go_wp2
  go_ret
  exact ⟨rfl, HB2.out⟩

set_option maxHeartbeats 12800000 in
theorem nameParses_walk (s : ByteArray) (w : World) (hs : s.size ≤ maxLen) : Calls Tryd.prog 8 #[.string s] w fun e w' => e = .returned (.bool true) ∧ Below w.heap.size w w' := by
  have HS := Lib.hid hs
  obtain ⟨t, ht⟩ : ∃ t, shortS s = t := ⟨_, rfl⟩
  have htl : t.size ≤ 300 := by rw [← ht]; exact shortS_le s
  obtain ⟨l, hl⟩ : ∃ l, t.data.toList = l := ⟨_, rfl⟩
  have hpp := pparse_is t
  have hrp := fun w => rparse_is t w (by omega)
  rw [hl] at hpp hrp
  have HPP := Lib.hid hpp
  have HRP := Lib.hid hrp
  have HT := Lib.hid ht
  have HL := Lib.hid hl
  have hql : parseE l = 0 → weighL (pParts l) ≤ 301 := fun h0 => by
    rw [(parse_yes h0).2.2]
    have h1 := keepL_weigh (pieces l)
    have h2 := pieces_weigh l
    have h3 : l.length = t.size := by rw [← hl, Lib.size_eq]
    have h4 : partsOf l = keepL (pieces l) := rfl
    rw [h4]; omega
  have hqn : (pParts l).length ≤ 32 := by
    unfold pParts
    split
    · rename_i h0
      exact (okParts_iff.1 (parseE_ok h0).2.2.2).2
    · simp
  have hback : parseE l = 0 → parseE (textL (pAbs l) (pDir l) (pParts l)) = 0 ∧ pAbs (textL (pAbs l) (pDir l) (pParts l)) = pAbs l ∧ pDir (textL (pAbs l) (pDir l) (pParts l)) = pDir l ∧ pParts (textL (pAbs l) (pDir l) (pParts l)) = pParts l ∧ textL (pAbs l) (pDir l) (pParts l) = rtextL (pAbs l) (pDir l) (pParts l) := fun h0 => by
    obtain ⟨e1, e2, e3⟩ := parse_yes h0
    rw [e1, e2, e3]
    have h1 := parse_text h0
    have hok := PathOk.ofParse h0
    obtain ⟨b1, b2, b3⟩ := text_back hok
    obtain ⟨c1, c2, c3⟩ := parse_yes h1
    rw [c1, c2, c3]
    exact ⟨h1, b3, b2, b1, text_ref (fun p hp => (hok.kept p hp).1) (fun h => dir_of_none h)⟩
  have HBACK := Lib.hid hback
  have HQL := Lib.hid hql
  have HQN := Lib.hid hqn
  clear hs ht htl hl hpp hrp hql hqn hback
  go_enter Tryd.func8, Tryd.ntmps8
  go_wp2_with fail
  refine (awake8_true w).mono ?_
  rintro e w0 ⟨rfl, c0⟩
  have C0 := Lib.hid c0
  clear c0
  go_wp2_with fail
  refine (short_is s w0 HS.out).mono ?_
  rintro e w1 ⟨rfl, rfl⟩
  rw [HT.out]
  go_wp2_with fail
  refine (HPP.out _).mono ?_
  rintro e w1 hpp
  obtain ⟨a1, cp1, rfl, r1, n1, m1, b1⟩ := hpp.path
  have C1 := Lib.hid (below_next C0.out b1)
  have R1 := Lib.hid r1
  have N1 := Lib.hid n1
  clear hpp r1 n1 m1 b1 C0
  go_wp2_with fail
  refine (HRP.out _).mono ?_
  rintro e w2 hpp
  obtain ⟨a2, cp2, rfl, r2, n2, m2, b2⟩ := hpp.path
  clear hpp
  generalize pAbs l = ab at *
  generalize pDir l = di at *
  generalize pParts l = Q at *
  generalize parseE l = E at *
  have k1 := (kept3_of (t := 57) (heap_alloc_new w1 (.cells #[.bool ab, .bool di, .slice a1 Q.length cp1] 57))).below b2
  have K1 : Hid (Kept3 (w2.alloc (.cells #[.bool ab, .bool di, .slice a2 Q.length cp2] 60)) w1.heap.size (.bool ab) (.bool di) (.slice a1 Q.length cp1)) := k1.more _
  have K2 : Hid (Kept3 (w2.alloc (.cells #[.bool ab, .bool di, .slice a2 Q.length cp2] 60)) w2.heap.size (.bool ab) (.bool di) (.slice a2 Q.length cp2)) := kept3_of (t := 60) (heap_alloc_new w2 _)
  have RR1 : Hid (ReadsV (w2.alloc (.cells #[.bool ab, .bool di, .slice a2 Q.length cp2] 60)) a1 Q.length (strsV Q)) := ((R1.out.alloc _).below b2).alloc _
  have RR2 : Hid (ReadsV (w2.alloc (.cells #[.bool ab, .bool di, .slice a2 Q.length cp2] 60)) a2 Q.length (strsV Q)) := r2.alloc _
  have C2 : Hid (Below w.heap.size w (w2.alloc (.cells #[.bool ab, .bool di, .slice a2 Q.length cp2] 60))) := below_next (below_next (below_next C1.out (below_box w1 _)) b2) (below_box w2 _)
  clear k1 r2 n2 m2 b2 R1 C1
  have hEE : (E != E) = false := by simp
  obtain ⟨x0, x1, x2, _, _, _, xz⟩ := K1.out
  obtain ⟨y0, y1, y2, _, _, _, yz⟩ := K2.out
  go_wp2_with fail
  have p0 := cell_regrown x0
  have p1 := cell_regrown x1
  have p2 := cell_regrown x2
  have q0 := cell_regrown y0
  have q1 := cell_regrown y1
  have q2 := cell_regrown y2
  refine wp_region_quiet_below (by kernel_rfl) (by kernel_rfl) ?_
  repeat (go_big_quiet_step (first | (go_at_call 32; exact Calls.regrown_of (told_is _ _ _ _ _ _)) | (go_at_call 31; exact Calls.regrown_of (same_is _ _ _ _ _ _ _ _ (RR1.out.below (below_regrown _ _ _)) (RR2.out.below (below_regrown _ _ _)) (Nat.le_trans HQN.out (by decide))))))
  refine wpQuiet_nil (regrown_name fun w5 b5 => ?_)
  have C5 := Lib.hid (below_next C2.out b5)
  have K15 := Lib.hid (K1.out.below b5)
  have K25 := Lib.hid (K2.out.below b5)
  have R15 := Lib.hid (RR1.out.below b5)
  have R25 := Lib.hid (RR2.out.below b5)
  clear p0 p1 p2 q0 q1 q2 x0 x1 x2 y0 y1 y2 xz yz b5 K1 K2 RR1 RR2 C2 hEE
  by_cases hE : E = 0
  · subst hE
    obtain ⟨h1, h2, h3, h4, h5⟩ := HBACK.out rfl
    have hw := HQL.out rfl
    obtain ⟨tt, htt⟩ : ∃ tt : ByteArray, tt = ⟨(textL ab di Q).toArray⟩ := ⟨_, rfl⟩
    have htl : tt.data.toList = textL ab di Q := by rw [htt]
    have hsv : strV (textL ab di Q) = .string tt := str_data tt htl
    have HX : Hid (∀ (a : Option Addr) (cp : Nat) (W : World), ReadsV W a Q.length (strsV Q) → Q.length ≤ cp → Calls Tryd.prog 33 #[.agg #[.bool ab, .bool di, .slice a Q.length cp]] W fun e w' => e = .returned (.string tt) ∧ Below W.heap.size W w') := fun a cp W hr hc => by
      have := ptext_is ab di a cp Q W hr hc (by omega)
      rw [hsv] at this
      exact this
    have HY : Hid (∀ (a : Option Addr) (cp : Nat) (W : World), ReadsV W a Q.length (strsV Q) → Calls Tryd.prog 34 #[.agg #[.bool ab, .bool di, .slice a Q.length cp]] W fun e w' => e = .returned (.string tt) ∧ Below W.heap.size W w') := fun a cp W hr => by
      have := rtext_is ab di a cp Q W hr (by omega)
      rw [← h5, hsv] at this
      exact this
    have hpp := pparse_is tt
    rw [htl] at hpp
    have HPT := Lib.hid hpp
    have H1 := Lib.hid h1
    have H2 := Lib.hid h2
    have H3 := Lib.hid h3
    have H4 := Lib.hid h4
    obtain ⟨x0, x1, x2, _, _, _, xz⟩ := K15.out
    clear h1 h2 h3 h4 h5 hw htt htl hsv hpp
    go_wp2_with fail
    refine (HX.out a1 cp1 w5 R15.out N1.out).mono ?_
    rintro e w6 ⟨rfl, c6⟩
    have C6 := Lib.hid (below_next C5.out c6)
    have K26 := Lib.hid (K25.out.below c6)
    have R26 := Lib.hid (R25.out.below c6)
    clear c6 x0 x1 x2 xz K15 K25 R15 R25 C5
    go_wp2_with fail
    refine (HPT.out w6).mono ?_
    rintro e w7 hpp
    obtain ⟨a3, cp3, rfl, r3, n3, m3, b3⟩ := hpp.path
    rw [H1.out, H2.out, H3.out, H4.out]
    rw [H4.out] at r3 n3
    have C7 : Hid (Below w.heap.size w (w7.alloc (.cells #[.bool ab, .bool di, .slice a3 Q.length cp3] 57))) := below_next (below_next C6.out b3) (below_box w7 _)
    have K37 : Hid (Kept3 (w7.alloc (.cells #[.bool ab, .bool di, .slice a3 Q.length cp3] 57)) w7.heap.size (.bool ab) (.bool di) (.slice a3 Q.length cp3)) := kept3_of (t := 57) (heap_alloc_new w7 _)
    have K27 : Hid (Kept3 (w7.alloc (.cells #[.bool ab, .bool di, .slice a3 Q.length cp3] 57)) w2.heap.size (.bool ab) (.bool di) (.slice a2 Q.length cp2)) := (K26.out.below b3).more _
    have R27 : Hid (ReadsV (w7.alloc (.cells #[.bool ab, .bool di, .slice a3 Q.length cp3] 57)) a2 Q.length (strsV Q)) := (R26.out.below b3).alloc _
    have R37 : Hid (ReadsV (w7.alloc (.cells #[.bool ab, .bool di, .slice a3 Q.length cp3] 57)) a3 Q.length (strsV Q)) := r3.alloc _
    have N3 := Lib.hid n3
    clear hpp r3 n3 m3 b3 K26 R26 C6 H1 H2 H3 H4 HPT
    obtain ⟨x0, x1, x2, _, _, _, xz⟩ := K37.out
    obtain ⟨y0, y1, y2, _, _, _, yz⟩ := K27.out
    have htt2 : (tt.toList == tt.toList) = true := by simp
    go_wp2_with fail
    have p0 := cell_regrown x0
    have p1 := cell_regrown x1
    have p2 := cell_regrown x2
    have q0 := cell_regrown y0
    have q1 := cell_regrown y1
    have q2 := cell_regrown y2
    refine wp_region_quiet_below (by kernel_rfl) (by kernel_rfl) ?_
    repeat (go_big_quiet_step (first
      | (go_at_call 32; exact Calls.regrown_of (told_is _ _ _ _ _ _))
      | (go_at_call 31; exact Calls.regrown_of (same_is _ _ _ _ _ _ _ _ (R37.out.below (below_regrown _ _ _)) (R27.out.below (below_regrown _ _ _)) (Nat.le_trans HQN.out (by decide))))
      | (go_at_call 34; exact Calls.regrown_of (HY.out _ _ _ (R27.out.below (below_regrown _ _ _))))
      | (go_at_call 33; exact Calls.regrown_of (HX.out _ _ _ (R37.out.below (below_regrown _ _ _)) N3.out))))
    refine wpQuiet_nil (regrown_name fun w8 b8 => ?_)
    have C8 := Lib.hid (below_next C7.out b8)
    clear p0 p1 p2 q0 q1 q2 x0 x1 x2 y0 y1 y2 xz yz b8
    go_wp2
    go_ret
    exact ⟨rfl, C8.out⟩
  · have hne : (E != 0) = true := by simp [hE]
    clear hE
    go_wp2
    go_ret
    exact ⟨rfl, C5.out⟩
theorem nameParses_met (os : Os) (args : Array Value) : laidMetH Tryd.prog [("unicode/utf8.acceptRanges", Rows.laid_unicode_utf8_acceptRanges), ("unicode/utf8.first", Rows.laid_unicode_utf8_first)] ((World.laidAll Tryd.prog os [("unicode/utf8.acceptRanges", Rows.laid_unicode_utf8_acceptRanges), ("unicode/utf8.first", Rows.laid_unicode_utf8_first)]).forCall (fun _ _ => 0) ⟨#[], args, []⟩).memory := by
  rw [MakeChecks.laidMetH_plain _ _ _ (by kernel_rfl)]; exact laidMet_laidAll _ (by kernel_rfl) (by kernel_rfl)
set_option maxRecDepth 100000 in
theorem nameParses_lifted (os : Os) (started : os.Started) (H : Type) (enc : TypeId × Value → H) :
    ReturnsInHanded {} Tryd.checked os 8 .any (fun w args => (Rows.nameParsesSpec.pre enc Tryd.prog Tryd.f8 [] false w args ∧ laidMetH Tryd.prog [("unicode/utf8.acceptRanges", Rows.laid_unicode_utf8_acceptRanges), ("unicode/utf8.first", Rows.laid_unicode_utf8_first)] w) ∧ sizedMet enc Tryd.prog Tryd.f8 (OpenSpec.ofChange Rows.nameParsesSpec) false w args) (Rows.nameParsesSpec.post enc Tryd.prog Tryd.f8 false true false false) :=
  law_laid (s := Rows.nameParsesSpec) started Tryd.func8 (by kernel_rfl) rfl (fun ds hd => by
        match ds, hd with
        | [_], _ => rfl) rfl
      (of_decide_eq_true (by kernel_rfl))
      (ChangeSpec.witness_shaped (enc := enc) (C := Tryd.checked) (os := os) (X := fun w _ => laidMetH Tryd.prog [("unicode/utf8.acceptRanges", Rows.laid_unicode_utf8_acceptRanges), ("unicode/utf8.first", Rows.laid_unicode_utf8_first)] w) false (World.laidAll Tryd.prog os [("unicode/utf8.acceptRanges", Rows.laid_unicode_utf8_acceptRanges), ("unicode/utf8.first", Rows.laid_unicode_utf8_first)]) #[.string ByteArray.empty] 8 (World.laidAll_os _ _ _) (World.shaped_of_ZipB (by kernel_rfl) (by kernel_rfl)) (by kernel_rfl) (by kernel_rfl) (by kernel_rfl) (nameParses_met os _))
      (fun W base args ds ps hval hA hsz hL => by
        rw [Tryd.params8] at hA hval hsz
        obtain ⟨v0, vs0, d0, ds0, p0, q0, hargs, rfl, rfl, h0, r0⟩ := trodAll_cons hA
        obtain ⟨rfl, rfl, rfl⟩ := trodAll_nil r0
        obtain rfl : args = #[v0] := by cases args; simp_all
        simp only [DataW.weightsEach, List.all_append, Bool.and_eq_true] at hsz
        obtain ⟨z0, _⟩ := hsz
        obtain ⟨s, rfl, rfl, rfl, ws⟩ := open_string Tryd.underlying9 (hval 0 9 v0 rfl rfl) h0
        exact nameParses_walk s W ws)

theorem nameParses_holds : Rows.NameParsesSaid :=
  OpenClaim.holds_of_wide 8 Tryd.f8 rfl rfl rfl rfl rfl rfl rfl ⟨rfl, rfl, rfl, rfl, rfl⟩ rfl rfl rfl rfl rfl (by kernel_rfl) Tryd.func8 (by kernel_rfl)
    (of_decide_eq_true (by kernel_rfl)) (by unfold Func.isWrapper; first | (rw [if_pos (by decide +kernel)]; kernel_rfl) | (rw [if_neg (by decide +kernel)]; exact ⟨rfl, rfl⟩))
    (fun os started H enc _ => nameParses_lifted os started H enc)
/-- The tied card. -/
theorem nameParses_card : Rows.NameParsesCardSaid :=
  Claim7.holds_tied_plain_at .later [] [.data, .pinned] true Rows.nameParsesCard.stood.harness false
    nameParses_holds (fun _ h => by cases h) (by kernel_rfl) (fun _ h => by cases h) nameParses_row_tie rfl ⟨rfl, rfl⟩ (by kernel_rfl) rfl
    (fun f fn hf hfn => by
      obtain rfl : f = 8 := Option.some.inj ((show Tryd.prog.funcNamed "drumlin/drumlinlaw08.NameParses" = some 8 by kernel_rfl).symm.trans hf) |>.symm
      obtain rfl : fn = Tryd.f8 := (Option.some.inj (Tryd.func8.symm.trans hfn)).symm
      exact ⟨by kernel_rfl, fun j t ht => by
        rw [Tryd.params8] at ht
        have hm : t ∈ [9] := by simpa using Array.mem_of_getElem? ht
        have hall : ([9].all fun u => !Tryd.prog.wantsStandIn u) = true := by kernel_rfl
        exact (show Tryd.prog.wantsStandIn t = false by simpa using List.all_eq_true.1 hall t hm)⟩)
    (by kernel_rfl)
#print axioms nameParses_card
end Go.Proofs.YthipeaighngpfaaDoor
