/- The law NameCleans is true for every input: what an absolute path names is named by a path without "..", as well. No condition but that the tables of Go's own library that the row lists read as they are laid. -/
import Derived.Test.YthipeaighngpfaaDoorNameAwake
import Derived.Test.YthipeaighngpfaaDoorJoin
import Derived.Test.YthipeaighngpfaaDoorLaid
import Derived.Test.YthipeaighngpfaaDoorCards
import Derived.Test.YthipeaighngpfaaDoorTie
import Derived.SevenTiedAt
import Derived.Lay
import Derived.Lib.MinMax
namespace Go.Proofs.YthipeaighngpfaaDoor
open Go.ChangeShapes Go.WideShapes Go.ChangeAt Go.RowKit Go.Sort
open Go.ChangeMaps (open_string)
set_option linter.unusedVariables false
set_option linter.unusedSimpArgs false
set_option maxRecDepth 100000

/-- What is clean, as a path. -/
structure CleanOk (m : Bs) (C : List Bs) : Prop where
  e : parseE (textL true false C) = 0
  ab : pAbs (textL true false C) = true
  parts : pParts (textL true false C) = C
  mem : ∀ p ∈ C, p ≠ [] ∧ p ≠ [46] ∧ p ≠ [46, 46]
  le : C.length ≤ (pParts (47 :: m)).length
  n32 : C.length ≤ 32
  w : weighL C ≤ 300
theorem cleanOk {m : Bs} (h : parseE (47 :: m) = 0) : CleanOk m (cleanL (pParts (47 :: m))) := by
  obtain ⟨_, _, hparts⟩ := parse_yes h
  rw [hparts]
  obtain ⟨h1, h2, h3, h4⟩ := parseE_ok h
  have hok := PathOk.ofParse h
  obtain ⟨k1, k2⟩ := okParts_iff.1 h4
  have hm : ∀ p ∈ cleanL (partsOf (47 :: m)), p ∈ partsOf (47 :: m) ∧ p ≠ [46, 46] := fun p hp => cleanL_mem hp
  obtain ⟨c1, c2⟩ := cleanL_le (partsOf (47 :: m))
  have hw : weighL (partsOf (47 :: m)) ≤ m.length + 1 := by
    have e : partsOf (47 :: m) = keepL (pieces m) := by
      unfold partsOf; rw [pieces_slash]; unfold keepL; rw [List.filter_cons]; simp [keptB_nil]
    rw [e]
    have := keepL_weigh (pieces m)
    have := pieces_weigh m
    omega
  have hlen : m.length + 1 ≤ 255 := by simpa using h3
  generalize hC : cleanL (partsOf (47 :: m)) = C at *
  have hkept : ∀ p ∈ C, p ≠ [] ∧ p ≠ [46] ∧ (47 : UInt8) ∉ p ∧ (0 : UInt8) ∉ p := fun p hp => hok.kept p (hm p hp).1
  have htx : textL true false C = 47 :: joinS C := by unfold textL; simp [absT]
  have hpp : partsOf (47 :: joinS C) = C := by
    unfold partsOf
    rw [pieces_slash]
    by_cases h0 : C = []
    · rw [h0]; rfl
    · rw [joinS_pieces C h0 fun p hp => (hkept p hp).2.2.1]
      have : keepL ([] :: C) = keepL C := by unfold keepL; rw [List.filter_cons]; simp [keptB_nil]
      rw [this]
      exact keepL_all fun p hp => keptB_iff.2 ⟨(hkept p hp).1, (hkept p hp).2.1⟩
  have hjl : (joinS C).length ≤ weighL C := by
    by_cases h0 : C = []
    · rw [h0]; exact Nat.zero_le _
    · have := joinS_length C h0; omega
  have hjl2 : (joinS C).length + 1 ≤ 255 := by
    by_cases h0 : C = []
    · rw [h0]; decide
    · have := joinS_length C h0; omega
  have h32 : C.length ≤ 32 := by omega
  have he : parseE (47 :: joinS C) = 0 := by
    refine parseE_of ?_ (by simp) (by simpa using hjl2) ?_
    · intro hz
      have hz2 : (0 : UInt8) ∈ textL true false C := by rw [htx]; exact hz
      rcases textL_mem hz2 with e | e | ⟨p, hp, hx⟩
      · cases e
      · cases e
      · exact (hkept p hp).2.2.2 hx
    · rw [hpp]
      exact okParts_iff.2 ⟨fun p hp => k1 p (hm p hp).1, h32⟩
  obtain ⟨g1, g2, g3⟩ := parse_yes he
  refine ⟨by rw [htx]; exact he, ?_, ?_, fun p hp => ⟨(hkept p hp).1, (hkept p hp).2.1, (hm p hp).2⟩, by rw [hparts]; exact c2, h32, by omega⟩
  · rw [htx, g1]; rfl
  · rw [htx, g3]; exact hpp
theorem clean_up {C : List Bs} (h : ∀ p ∈ C, p ≠ [46, 46]) : cleanL (C ++ [[46, 46], [122, 122]]) = C.dropLast ++ [[122, 122]] := by
  have e : C ++ [[46, 46], [122, 122]] = (C ++ [[46, 46]]) ++ [[122, 122]] := by simp
  rw [e, cleanL_snoc, cleanL_snoc, cleanL_same h]
  unfold cleanS
  simp
theorem CleanPost.path {Q : List Bs} {w w' : World} {e : Ending} (h : CleanPost Q w e w') : ∃ a cp, e = .returned (.slice a (cleanL Q).length cp) ∧ ReadsV w' a (cleanL Q).length (strsV (cleanL Q)) ∧ (cleanL Q).length ≤ cp ∧ Below w.heap.size w w' := by
  obtain ⟨v, he, ho, hb⟩ := h
  obtain ⟨a, cp, hv, hr, h1, h2⟩ := ho.reads
  rw [strsV_length] at hv hr h1
  exact ⟨a, cp, by rw [he, hv], hr, h1, hb⟩

set_option maxHeartbeats 12800000 in
theorem nameCleans_walk (s : ByteArray) (w : World) (hs : s.size ≤ maxLen) : Calls Tryd.prog 12 #[.string s] w fun e w' => e = .returned (.bool true) ∧ Below w.heap.size w w' := by
  have HS := Lib.hid hs
  obtain ⟨t, ht⟩ : ∃ t, shortS s = t := ⟨_, rfl⟩
  have htl : t.size ≤ 300 := by rw [← ht]; exact shortS_le s
  obtain ⟨m, hm⟩ : ∃ m, t.data.toList = m := ⟨_, rfl⟩
  obtain ⟨u, hu⟩ : ∃ u : ByteArray, (⟨#[47]⟩ : ByteArray) ++ t = u := ⟨_, rfl⟩
  have hul : u.data.toList = 47 :: m := by rw [← hu, cat_data (l := [47]) rfl hm]; rfl
  have hpp := pparse_is u
  rw [hul] at hpp
  have HPP := Lib.hid hpp
  have HT := Lib.hid ht
  have hqn : (pParts (47 :: m)).length ≤ 32 := by
    unfold pParts
    split
    · rename_i h0
      exact (okParts_iff.1 (parseE_ok h0).2.2.2).2
    · simp
  have HQN := Lib.hid hqn
  have HC := Lib.hid (fun h : parseE (47 :: m) = 0 => cleanOk h)
  clear hs ht hm hul hpp hqn
  go_enter Tryd.func12, Tryd.ntmps12
  go_wp2_with fail
  refine (awake8_true w).mono ?_
  rintro e w0 ⟨rfl, c0⟩
  have C0 := Lib.hid c0
  clear c0
  go_wp2_with fail
  refine (short_is s w0 HS.out).mono ?_
  rintro e w1 ⟨rfl, rfl⟩
  rw [HT.out]
  go_wp2_with fail
  refine (HPP.out _).mono ?_
  rintro e w1 hpp
  obtain ⟨a1, cp1, rfl, r1, n1, m1, b1⟩ := hpp.path
  have C1 := Lib.hid (below_next C0.out b1)
  have R1 := Lib.hid r1
  clear hpp r1 n1 m1 b1 C0 hu
  by_cases hE : parseE (47 :: m) = 0
  · have hco := HC.out hE
    rw [hE]
    generalize pAbs (47 :: m) = ab at *
    generalize pDir (47 :: m) = di at *
    obtain ⟨Q, hQ⟩ : ∃ Q, pParts (47 :: m) = Q := ⟨_, rfl⟩
    have hle := hco.le
    rw [hQ] at hco HQN R1 hle ⊢
    obtain ⟨C, hC⟩ : ∃ C, cleanL Q = C := ⟨_, rfl⟩
    rw [hC] at hco hle
    have HCO := Lib.hid hco
    have HCQ := Lib.hid hC
    have HLE := Lib.hid hle
    have CB1 : Hid (Below w.heap.size w (w1.alloc (.cells #[.bool ab, .bool di, .slice a1 Q.length cp1] 57))) := below_next C1.out (below_box w1 _)
    have K1 : Hid (Kept3 (w1.alloc (.cells #[.bool ab, .bool di, .slice a1 Q.length cp1] 57)) w1.heap.size (.bool ab) (.bool di) (.slice a1 Q.length cp1)) := kept3_of (t := 57) (heap_alloc_new w1 _)
    have RR1 : Hid (ReadsV (w1.alloc (.cells #[.bool ab, .bool di, .slice a1 Q.length cp1] 57)) a1 Q.length (strsV Q)) := R1.out.alloc _
    clear hco hC hQ hle hE C1 R1 HC HPP
    go_wp2_with fail
    refine (pclean_is ab di a1 cp1 Q _ RR1.out (by have := HQN.out; omega)).mono ?_
    rintro e w2 hcp
    obtain ⟨a2, cp2, rfl, r2, n2, b2⟩ := hcp.path
    rw [HCQ.out] at r2 n2 ⊢
    have C2 : Hid (Below w.heap.size w (w2.alloc (.cells #[.bool true, .bool false, .slice a2 C.length cp2] 57))) := below_next (below_next CB1.out b2) (below_box w2 _)
    have K12 : Hid (Kept3 (w2.alloc (.cells #[.bool true, .bool false, .slice a2 C.length cp2] 57)) w1.heap.size (.bool ab) (.bool di) (.slice a1 Q.length cp1)) := (K1.out.below b2).more _
    have R2 : Hid (ReadsV (w2.alloc (.cells #[.bool true, .bool false, .slice a2 C.length cp2] 57)) a2 C.length (strsV C)) := r2.alloc _
    have N2 := Lib.hid n2
    clear hcp r2 n2 b2 CB1 K1 RR1 HCQ
    obtain ⟨tt, htt⟩ : ∃ tt : ByteArray, tt = ⟨(textL true false C).toArray⟩ := ⟨_, rfl⟩
    have htl2 : tt.data.toList = textL true false C := by rw [htt]
    have HSV := Lib.hid (str_data tt htl2)
    have hpp := pparse_is tt
    rw [htl2] at hpp
    have HPT := Lib.hid hpp
    clear htt htl2 hpp
    go_wp2_with fail
    refine (ptext_is true false a2 cp2 C _ R2.out N2.out (by have := HCO.out.w; omega)).mono ?_
    rintro e w3 ⟨rfl, b3⟩
    rw [HSV.out]
    have C3 := Lib.hid (below_next C2.out b3)
    have K13 := Lib.hid (K12.out.below b3)
    have R23 := Lib.hid (R2.out.below b3)
    clear b3 C2 K12 R2
    go_wp2_with fail
    refine (HPT.out w3).mono ?_
    rintro e w4 hpp
    obtain ⟨a4, cp4, rfl, r4, n4, m4, b4⟩ := hpp.path
    rw [HCO.out.e, HCO.out.ab]
    rw [HCO.out.parts] at r4 n4 ⊢
    generalize pDir (textL true false C) = d4 at *
    have C4 : Hid (Below w.heap.size w (w4.alloc (.cells #[.bool true, .bool d4, .slice a4 C.length cp4] 57))) := below_next (below_next C3.out b4) (below_box w4 _)
    have K14 : Hid (Kept3 (w4.alloc (.cells #[.bool true, .bool d4, .slice a4 C.length cp4] 57)) w1.heap.size (.bool ab) (.bool di) (.slice a1 Q.length cp1)) := (K13.out.below b4).more _
    have K44 : Hid (Kept3 (w4.alloc (.cells #[.bool true, .bool d4, .slice a4 C.length cp4] 57)) w4.heap.size (.bool true) (.bool d4) (.slice a4 C.length cp4)) := kept3_of (t := 57) (heap_alloc_new w4 _)
    have R24 : Hid (ReadsV (w4.alloc (.cells #[.bool true, .bool d4, .slice a4 C.length cp4] 57)) a2 C.length (strsV C)) := (R23.out.below b4).alloc _
    have R44 : Hid (ReadsV (w4.alloc (.cells #[.bool true, .bool d4, .slice a4 C.length cp4] 57)) a4 C.length (strsV C)) := r4.alloc _
    have xz' : w1.heap.size < w4.heap.size := (K13.out.below b4).2.2.2.2.2.2
    clear hpp r4 n4 m4 b4 C3 K13 R23 HPT HSV
    obtain ⟨x0, x1, x2, _, _, _, xz⟩ := K14.out
    have hnle : ¬ ((Q.length : Int) < (C.length : Int)) := by have := HLE.out; omega
    have hnee : ((C.length : Int) != (C.length : Int)) = false := by simp
    have hC32 : C.length ≤ 32 := HCO.out.n32
    go_wp2_with fail
    refine (pclean_is true d4 a4 cp4 C _ R44.out (by omega)).mono ?_
    rintro e w5 hcp
    obtain ⟨a5, cp5, rfl, r5, n5, b5⟩ := hcp.path
    rw [cleanL_same fun p hp => (HCO.out.mem p hp).2.2] at r5 n5 ⊢
    have C5 := Lib.hid (below_next C4.out b5)
    have K45 := Lib.hid (K44.out.below b5)
    have HR5 := Lib.hid (strs_get r5)
    have HR2 := Lib.hid (strs_get (R24.out.below b5))
    have R45 := Lib.hid (R44.out.below b5)
    clear hcp r5 n5 b5 C4 K14 K44 R24 R44 x0 x1 x2 xz xz' hnle hnee
    obtain ⟨n, hn⟩ : ∃ n, C.length = n := ⟨_, rfl⟩
    have HN := Lib.hid hn
    rw [hn] at hC32 K45 R45 ⊢
    clear hn
    go_wp2_with fail
    go_loopw [54] (fun vi wr => ∃ i : Nat, i ≤ n ∧ vi = .int .i64 i ∧ wr = w5) (fun vi _ => n - (intOf vi).toNat)
    case atStart => exact ⟨0, Nat.zero_le _, rfl, rfl⟩
    case round =>
      obtain ⟨i, hi, rfl, rfl⟩ := hrel
      by_cases hlt : i < n
      · obtain ⟨p, hp⟩ : ∃ p, C[i]? = some p := ⟨_, List.getElem?_eq_getElem (by have := HN.out; omega)⟩
        obtain ⟨g, off, rfl, hg, hc⟩ := HR5.out i p hp
        obtain ⟨g2, off2, rfl, hg2, hc2⟩ := HR2.out i p hp
        obtain ⟨y, hy⟩ : ∃ y : ByteArray, y = ⟨p.toArray⟩ := ⟨_, rfl⟩
        have hyl : y.data.toList = p := by rw [hy]
        have e1 : wr.cell? ⟨g, off + i, none⟩ = some (.string y) := by rw [hc, hy]; rfl
        have e2 : wr.cell? ⟨g2, off2 + i, none⟩ = some (.string y) := by rw [hc2, hy]; rfl
        have hyt := txt_tests hyl
        obtain ⟨q1, q2, q3⟩ := HCO.out.mem p (List.mem_of_getElem? hp)
        have t0 : (y.toList != y.toList) = false := by simp
        have t1 : (y.toList == [46, 46]) = false := by rw [hyt]; simp [q3]
        have t2 : (y.toList == [46]) = false := by rw [hyt]; simp [q2]
        have t3 : ¬ y.toList = [] := by rw [hyt]; exact q1
        have t4 : y.toList.isEmpty = false := by cases h : y.toList with | nil => exact absurd h t3 | cons => rfl
        have hlt2 : (i : Int) < (n : Int) := by omega
        clear hp hc hc2 hy hyl hyt q1 q2 q3
        go_wp2
        go_roundw
        case rel => exact ⟨i + 1, by omega, by go_num, trivial⟩
        case measure => simp [intOf]; omega
      · have hge : ¬ ((i : Int) < (n : Int)) := by omega
        obtain ⟨y0, y1, y2, _, _, _, yz⟩ := K45.out
        have HJ : Hid (∀ (b : Option Addr) (W : World), ReadsV W a4 n (strsV C) → ReadsV W b 2 (strsV [[46, 46], [122, 122]]) → Calls Tryd.prog 36 #[.agg #[.bool true, .bool d4, .slice a4 n cp4], .agg #[.bool false, .bool false, .slice b 2 2]] W (JoinPost true false (C ++ [[46, 46], [122, 122]]) W)) := fun b W h1 h2 => by
          have hn := HN.out
          rw [← hn] at h1 ⊢
          exact join_rel true d4 a4 cp4 C false b 2 [[46, 46], [122, 122]] W h1 h2 (by omega) (by decide) rfl
        have HRL : Hid (ReadsV (wr.alloc (.cells #[.string ⟨#[46, 46]⟩, .string ⟨#[122, 122]⟩] 9)) (some ⟨wr.heap.size, 0, none⟩) 2 (strsV [[46, 46], [122, 122]])) := ReadsV.lit wr #[.string ⟨#[46, 46]⟩, .string ⟨#[122, 122]⟩] 9
        have HR4 : Hid (ReadsV (wr.alloc (.cells #[.string ⟨#[46, 46]⟩, .string ⟨#[122, 122]⟩] 9)) a4 n (strsV C)) := R45.out.alloc _
        have C6 : Hid (Below w.heap.size w (wr.alloc (.cells #[.string ⟨#[46, 46]⟩, .string ⟨#[122, 122]⟩] 9))) := below_next C5.out (below_box wr _)
        have hup := clean_up fun p hp => (HCO.out.mem p hp).2.2
        obtain ⟨U, hU⟩ : ∃ U, C.dropLast ++ [[122, 122]] = U := ⟨_, rfl⟩
        rw [hU] at hup
        obtain ⟨j, hj, hj2, hj3⟩ : ∃ j : Nat, U.length = j + 1 ∧ U[j]? = some [122, 122] ∧ max (n : Int) 1 = (j : Int) + 1 := by
          refine ⟨C.dropLast.length, ?_, ?_, ?_⟩
          · rw [← hU]; simp
          · rw [← hU]; simp
          · rw [List.length_dropLast]; have := HN.out; omega
        have hjb : j ≤ 100 := by
          have h1 : U.length = C.dropLast.length + 1 := by rw [← hU]; simp
          rw [List.length_dropLast] at h1
          have := HN.out; omega
        have HUP := Lib.hid hup
        have HJ1 := Lib.hid hj
        have HJ2 := Lib.hid hj2
        have HJ3 := Lib.hid hj3
        clear hlt hup hU hj hj2 hj3
        go_wp2_with fail
        (with_reducible refine (HJ.out _ _ HR4.out HRL.out).mono ?_)
        rintro e w6 ⟨v6, rfl, o6, b6⟩
        obtain ⟨a6, cp6, hv6, r6, n6, _⟩ := o6.reads
        rw [strsV_length] at hv6 r6 n6
        have C7 := Lib.hid (below_next C6.out b6)
        obtain ⟨V, hV⟩ : ∃ V, C ++ [[46, 46], [122, 122]] = V := ⟨_, rfl⟩
        have HUP2 : Hid (cleanL V = U) := by rw [← hV]; exact HUP.out
        have hvl : V.length ≤ 900 := by rw [← hV, List.length_append, HN.out]; show n + 2 ≤ 900; omega
        rw [hV] at hv6 r6
        have HCN := Lib.hid (pclean_is true false a6 cp6 V w6 r6 hvl)
        obtain ⟨k, hk⟩ : ∃ k, V.length = k := ⟨_, rfl⟩
        rw [hk] at hv6 HCN
        subst hv6
        clear o6 r6 n6 b6 hV hvl hk
        go_wp2_with fail
        (with_reducible refine HCN.out.mono ?_)
        rintro e w7 hcp
        obtain ⟨a7, cp7, rfl, r7, n7, b7⟩ := hcp.path
        rw [HUP2.out] at r7 ⊢
        obtain ⟨g, off, ha7, hg, hc⟩ := strs_get r7 j _ HJ2.out
        rw [HJ1.out]
        subst ha7
        have C8 := Lib.hid (below_next C7.out b7)
        have hc' : w7.cell? ⟨g, off + j, none⟩ = some (.string ⟨#[122, 122]⟩) := hc
        have hmx := HJ3.out
        have hee : ((j : Int) + 1 == (j : Int) + 1) = true := by simp
        clear hcp r7 n7 b7 hc HR4 HRL HJ y0 y1 y2 yz
        go_wp2
        go_ret
        exact ⟨rfl, C8.out⟩
  · have hne : (parseE (47 :: m) != 0) = true := by simp [hE]
    generalize parseE (47 :: m) = E at *
    have CB1 : Hid (Below w.heap.size w (w1.alloc (.cells #[.bool (pAbs (47 :: m)), .bool (pDir (47 :: m)), .slice a1 (pParts (47 :: m)).length cp1] 57))) := below_next C1.out (below_box w1 _)
    clear hE
    go_wp2
    go_ret
    exact ⟨rfl, CB1.out⟩
theorem nameCleans_met (os : Os) (args : Array Value) : laidMetH Tryd.prog [("unicode/utf8.acceptRanges", Rows.laid_unicode_utf8_acceptRanges), ("unicode/utf8.first", Rows.laid_unicode_utf8_first)] ((World.laidAll Tryd.prog os [("unicode/utf8.acceptRanges", Rows.laid_unicode_utf8_acceptRanges), ("unicode/utf8.first", Rows.laid_unicode_utf8_first)]).forCall (fun _ _ => 0) ⟨#[], args, []⟩).memory := by
  rw [MakeChecks.laidMetH_plain _ _ _ (by kernel_rfl)]; exact laidMet_laidAll _ (by kernel_rfl) (by kernel_rfl)
set_option maxRecDepth 100000 in
theorem nameCleans_lifted (os : Os) (started : os.Started) (H : Type) (enc : TypeId × Value → H) :
    ReturnsInHanded {} Tryd.checked os 12 .any (fun w args => (Rows.nameCleansSpec.pre enc Tryd.prog Tryd.f12 [] false w args ∧ laidMetH Tryd.prog [("unicode/utf8.acceptRanges", Rows.laid_unicode_utf8_acceptRanges), ("unicode/utf8.first", Rows.laid_unicode_utf8_first)] w) ∧ sizedMet enc Tryd.prog Tryd.f12 (OpenSpec.ofChange Rows.nameCleansSpec) false w args) (Rows.nameCleansSpec.post enc Tryd.prog Tryd.f12 false true false false) :=
  law_laid (s := Rows.nameCleansSpec) started Tryd.func12 (by kernel_rfl) rfl (fun ds hd => by
        match ds, hd with
        | [_], _ => rfl) rfl
      (of_decide_eq_true (by kernel_rfl))
      (ChangeSpec.witness_shaped (enc := enc) (C := Tryd.checked) (os := os) (X := fun w _ => laidMetH Tryd.prog [("unicode/utf8.acceptRanges", Rows.laid_unicode_utf8_acceptRanges), ("unicode/utf8.first", Rows.laid_unicode_utf8_first)] w) false (World.laidAll Tryd.prog os [("unicode/utf8.acceptRanges", Rows.laid_unicode_utf8_acceptRanges), ("unicode/utf8.first", Rows.laid_unicode_utf8_first)]) #[.string ByteArray.empty] 8 (World.laidAll_os _ _ _) (World.shaped_of_ZipB (by kernel_rfl) (by kernel_rfl)) (by kernel_rfl) (by kernel_rfl) (by kernel_rfl) (nameCleans_met os _))
      (fun W base args ds ps hval hA hsz hL => by
        rw [Tryd.params12] at hA hval hsz
        obtain ⟨v0, vs0, d0, ds0, p0, q0, hargs, rfl, rfl, h0, r0⟩ := trodAll_cons hA
        obtain ⟨rfl, rfl, rfl⟩ := trodAll_nil r0
        obtain rfl : args = #[v0] := by cases args; simp_all
        simp only [DataW.weightsEach, List.all_append, Bool.and_eq_true] at hsz
        obtain ⟨z0, _⟩ := hsz
        obtain ⟨s, rfl, rfl, rfl, ws⟩ := open_string Tryd.underlying9 (hval 0 9 v0 rfl rfl) h0
        exact nameCleans_walk s W ws)

theorem nameCleans_holds : Rows.NameCleansSaid :=
  OpenClaim.holds_of_wide 12 Tryd.f12 rfl rfl rfl rfl rfl rfl rfl ⟨rfl, rfl, rfl, rfl, rfl⟩ rfl rfl rfl rfl rfl (by kernel_rfl) Tryd.func12 (by kernel_rfl)
    (of_decide_eq_true (by kernel_rfl)) (by unfold Func.isWrapper; first | (rw [if_pos (by decide +kernel)]; kernel_rfl) | (rw [if_neg (by decide +kernel)]; exact ⟨rfl, rfl⟩))
    (fun os started H enc _ => nameCleans_lifted os started H enc)
/-- The tied card. -/
theorem nameCleans_card : Rows.NameCleansCardSaid :=
  Claim7.holds_tied_plain_at .later [] [.data, .pinned] true Rows.nameCleansCard.stood.harness false
    nameCleans_holds (fun _ h => by cases h) (by kernel_rfl) (fun _ h => by cases h) nameCleans_row_tie rfl ⟨rfl, rfl⟩ (by kernel_rfl) rfl
    (fun f fn hf hfn => by
      obtain rfl : f = 12 := Option.some.inj ((show Tryd.prog.funcNamed "drumlin/drumlinlaw08.NameCleans" = some 12 by kernel_rfl).symm.trans hf) |>.symm
      obtain rfl : fn = Tryd.f12 := (Option.some.inj (Tryd.func12.symm.trans hfn)).symm
      exact ⟨by kernel_rfl, fun j t ht => by
        rw [Tryd.params12] at ht
        have hm : t ∈ [9] := by simpa using Array.mem_of_getElem? ht
        have hall : ([9].all fun u => !Tryd.prog.wantsStandIn u) = true := by kernel_rfl
        exact (show Tryd.prog.wantsStandIn t = false by simpa using List.all_eq_true.1 hall t hm)⟩)
    (by kernel_rfl)
#print axioms nameCleans_card
end Go.Proofs.YthipeaighngpfaaDoor
