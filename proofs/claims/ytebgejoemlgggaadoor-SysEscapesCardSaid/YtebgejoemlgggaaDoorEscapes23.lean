/- SysEscapes' walk. -/
import Derived.Test.YtebgejoemlgggaaDoorAwake23
import Derived.Deep.DeepCutAuto
import Derived.Deep.CutBlock
namespace Go.Proofs.YtebgejoemlgggaaDoor
open Go.RowKit Go.Sort
set_option linter.unusedVariables false
set_option linter.unusedSimpArgs false
set_option maxRecDepth 100000

theorem sameB_self (l : List Nat) : sameB l l = true := by unfold sameB; simp
theorem first_2000 {w : World} {a : Option Addr} {n c : Nat} {l : Bx} (hr : Reads w a n (nb l)) (hnc : n ≤ c) (h : 2000 ≤ n) :
    ∃ a', (∀ W, (Instr.sliceAt 22 (.slice a n c) none (some (.int .i64 2000)) none).run Tryd.prog W = .ok (.slice a' 2000 c) W) ∧ Reads w a' 2000 (nb (l.take 2000)) := by
  have ht : Tryd.prog.underlying 22 = some (.slice (Tryd.prog.elem 22)) := by kernel_rfl
  have he : Tryd.prog.elem 22 = 5 := by kernel_rfl
  have hsz : ∀ W, (Go.sizeOf 5).run Tryd.prog W = .ok 1 W := fun W => by kernel_rfl
  refine ⟨if c = 0 then a else a.map (·.add (0 * 1)), fun W => ?_, ?_⟩
  · rw [run_sliceAt_slice _ _ _ _ _ _ ht, run_slice_h _ _ _ _ _ ht .i64 _ (by omega) (by omega), he, hsz]
    simp only [Result.andThen_ok, sliced]
    rfl
  · obtain ⟨h1, h2, h3 | ⟨b, off, rfl, hb, hc⟩⟩ := hr
    · exfalso
      rw [h3] at h1
      simp at h1
      omega
    · rw [if_neg (by omega)]
      have hadd : (⟨b, off, none⟩ : Addr).add (0 * 1) = ⟨b, off, none⟩ := by unfold Addr.add; simp
      rw [Option.map_some, hadd]
      have e1 : nb (l.take 2000) = (nb l).take 2000 := by unfold nb; rw [List.map_take]
      rw [e1]
      refine ⟨by rw [List.length_take, h1]; omega, fun x hx => h2 x (List.mem_of_mem_take hx), .inr ⟨b, off, rfl, hb, fun i hi => ?_⟩⟩
      rw [hc i (by omega)]
      congr 3
      rw [List.getD_eq_getElem?_getD, List.getD_eq_getElem?_getD, List.getElem?_take_of_lt hi]
theorem escL_ge (l : Bx) : l.length ≤ (escL l).length := by
  unfold escL
  split
  · rename_i h; rw [h]; simp
  · exact (escF_length l).1
set_option maxHeartbeats 1600000 in
theorem sysEscapes_walk (a : Option Addr) (n c : Nat) (l : Bx) (s : ByteArray) (w : World) (hv : VarsAt w) (hr : Reads w a n (nb l)) (hnc : n ≤ c) (hc : c ≤ maxLen) (hs : s.size ≤ maxLen) :
    Calls Tryd.prog 5 #[.slice a n c, .string s] w fun e w' => e = .returned (.bool true) ∧ Below w.heap.size w w' := by
  have HV := Lib.hid hv
  have HR := Lib.hid hr
  have HNC := Lib.hid (And.intro hnc hc)
  have HS := Lib.hid hs
  unfold maxLen at hc hs
  clear hv hr
  go_enter Tryd.func5, Tryd.ntmps5
  go_wp2_with fail
  refine (awake23_true w HV.out).mono ?_
  rintro e w1 ⟨rfl, b1⟩
  have HR1 := Lib.hid (HR.out.below b1)
  have K1 := Lib.hid b1
  clear b1
  by_cases h1 : 2000 < n
  · have g1 : (2000 : Int) < (n : Int) := by omega
    obtain ⟨a', hsl, hr'⟩ := first_2000 HR1.out hnc (by omega)
    obtain ⟨l1, hl1d⟩ : ∃ l1, l1 = l.take 2000 := ⟨_, rfl⟩
    rw [← hl1d] at hr'
    have hl1 : l1.length = 2000 := by have h9 := hr'.1; rw [nb_length] at h9; exact h9
    have HLN := Lib.hid hl1
    have HR2 := Lib.hid hr'
    clear hr' hl1d
    by_cases h2 : 2000 < s.size
    · have g2 : (2000 : Int) < (s.size : Int) := by omega
      have HL1 := Lib.hid hl1
      obtain ⟨x, hx⟩ : ∃ x, strB (escL l1) = .string x := ⟨_, rfl⟩
      have hxd : x.data.toList = escL l1 := by unfold strB at hx; injection hx with hx; rw [← hx]
      have hxl : (escL l1).length ≤ 20000 := by have := (escL_length l1).2; omega
      have HX := Lib.hid hx
      have HXD := Lib.hid hxd
      have HXL := Lib.hid hxl
      have HLS := Lib.hid (show (s.extract 0 2000).data.toList.length ≤ 20000 by rw [← Lib.size_eq]; rw [ByteArray.size_extract]; omega)
      clear hl1 hx hxd hxl
      go_wp2_with fail
      refine (pesc_is a' 2000 c l1 w1 HR2.out (by omega) (by have := HL1.out; omega)).mono ?_
      rintro e w2 ⟨rfl, b2⟩
      rw [HX.out]
      have K2 := Lib.hid (below_next K1.out b2)
      have HR3 := Lib.hid (HR2.out.below b2)
      clear b2
      go_wp2_with fail
      refine (pune_is x _ HXD.out w2 HXL.out).mono ?_
      rintro e w3 ⟨v3, rfl, o3, b3⟩
      rw [unE_iff.2 (rfl : escL l1 = escL l1)] at o3 ⊢
      obtain ⟨a3, c3, rfl, r3, hc3, _⟩ := o3.reads
      replace r3 : Reads w3 a3 (nb l1).length (nb l1) := r3
      have hk3 : (nb ((some l1).getD [])).length = 2000 := (nb_length _).trans HLN.out
      rw [hk3] at hc3 ⊢
      rw [nb_length, HLN.out] at r3
      have K3 := Lib.hid (below_next K2.out b3)
      have HR4 := Lib.hid (HR3.out.below b3)
      have R3 := Lib.hid r3
      have C3 := Lib.hid hc3
      clear b3 o3 r3 hc3 hk3
      dsimp only [Option.isSome]
      go_wp2_with fail
      refine (resc_is a' 2000 c l1 w3 HR4.out (by omega) (by have := HL1.out; omega)).mono ?_
      rintro e w4 ⟨rfl, b4⟩
      rw [HX.out]
      have K4 := Lib.hid (below_next K3.out b4)
      have HR5 := Lib.hid (HR4.out.below b4)
      have R4 := Lib.hid (R3.out.below b4)
      have hxx : (x.toList != x.toList) = false := by simp
      clear b4
      go_wp2_with fail
      refine (equal_alike a3 a' 2000 c3 c (nb l1) (nb l1) w4 R4.out HR5.out (by unfold maxLen; omega)).mono ?_
      rintro e w5 ⟨rfl, m5, rfl⟩
      rw [sameB_self]
      have K5 := Lib.hid (below_next K4.out (below_drewN w4 m5))
      go_wp2_with fail
      refine (pune_is (s.extract 0 2000) _ rfl (w4.drewN m5) HLS.out).mono ?_
      rintro e w6 ⟨v6, rfl, o6, b6⟩
      obtain ⟨a6, c6, rfl, r6, hc6, _⟩ := o6.reads
      have K6 := Lib.hid (below_next K5.out b6)
      clear o6 b6
      obtain ⟨o, ho⟩ : ∃ o, unE (s.extract 0 2000).data.toList = o := ⟨_, rfl⟩
      rw [ho] at r6 hc6 ⊢
      obtain ⟨n6, hn6⟩ : ∃ k, (nb (o.getD [])).length = k := ⟨_, rfl⟩
      rw [hn6] at r6 hc6 ⊢
      have R6 := Lib.hid r6
      have C6 := Lib.hid hc6
      have HO := Lib.hid ho
      have N6 := Lib.hid hn6
      clear r6 hc6 ho hn6
      go_wp2_with fail
      refine (rune_is (s.extract 0 2000) _ rfl w6 HLS.out).mono ?_
      rintro e w7 ⟨v7, rfl, o7, b7⟩
      obtain ⟨a7, c7, rfl, r7, hc7, _⟩ := o7.reads
      rw [HO.out, N6.out] at r7 hc7 ⊢
      have K7 := Lib.hid (below_next K6.out b7)
      have R7 := Lib.hid r7
      have R8 := Lib.hid (R6.out.below b7)
      have hn6 : n6 ≤ 20000 := by
        rw [← N6.out, nb_length]
        cases o with
        | none => simp
        | some z =>
          have h8 := unE_iff.1 HO.out
          have h9 := HLS.out
          have h10 := (escL_length z).1
          have h11 : z.length ≤ (escL z).length := escL_ge z
          rw [h8] at h11
          exact Nat.le_trans h11 h9
      clear o7 b7 r7 hc7
      have eqs : Hid (Calls Tryd.prog 23 #[.slice a6 n6 c6, .slice a7 n6 c7] w7 fun e w' => e = .returned (.bool true) ∧ ∃ m, w7.drewN m = w') :=
        (equal_alike a6 a7 n6 c6 c7 (nb (o.getD [])) (nb (o.getD [])) w7 R8.out R7.out (by unfold maxLen; omega)).mono fun _ _ h => by rw [sameB_self] at h; exact h
      cases o with
      | none =>
        dsimp only [Option.isSome]
        go_wp2_with fail
        refine eqs.out.mono ?_
        rintro e w8 ⟨rfl, m8, rfl⟩
        have K8 := Lib.hid (below_next K7.out (below_drewN w7 m8))
        go_wp2_with fail
        go_ret
        exact ⟨rfl, K8.out⟩
      | some z =>
        dsimp only [Option.isSome]
        go_wp2_with fail
        refine eqs.out.mono ?_
        rintro e w8 ⟨rfl, m8, rfl⟩
        have K8 := Lib.hid (below_next K7.out (below_drewN w7 m8))
        go_wp2_with fail
        have hz : Hid (strB (escL z) = .string (s.extract 0 2000)) := by
          rw [unE_iff.1 HO.out]
          unfold strB
          exact Lib.hid (congrArg Value.string rfl)
        have hzl : z.length = n6 := (nb_length z).symm.trans N6.out
        refine (pesc_is a6 n6 c6 z (w7.drewN m8) (R8.out.below (below_drewN w7 m8)) C6.out (by omega)).mono ?_
        rintro e w9 ⟨rfl, b9⟩
        rw [hz.out]
        have K9 := Lib.hid (below_next K8.out b9)
        have hss : ((s.extract 0 2000).toList == (s.extract 0 2000).toList) = true := by simp
        clear b9
        go_wp2_with fail
        go_ret
        exact ⟨rfl, K9.out⟩
    · have g2 : ¬ (2000 : Int) < (s.size : Int) := by omega
      have HL1 := Lib.hid hl1
      obtain ⟨x, hx⟩ : ∃ x, strB (escL l1) = .string x := ⟨_, rfl⟩
      have hxd : x.data.toList = escL l1 := by unfold strB at hx; injection hx with hx; rw [← hx]
      have hxl : (escL l1).length ≤ 20000 := by have := (escL_length l1).2; omega
      have HX := Lib.hid hx
      have HXD := Lib.hid hxd
      have HXL := Lib.hid hxl
      have HLS := Lib.hid (show (s).data.toList.length ≤ 20000 by rw [← Lib.size_eq]; omega)
      clear hl1 hx hxd hxl
      go_wp2_with fail
      refine (pesc_is a' 2000 c l1 w1 HR2.out (by omega) (by have := HL1.out; omega)).mono ?_
      rintro e w2 ⟨rfl, b2⟩
      rw [HX.out]
      have K2 := Lib.hid (below_next K1.out b2)
      have HR3 := Lib.hid (HR2.out.below b2)
      clear b2
      go_wp2_with fail
      refine (pune_is x _ HXD.out w2 HXL.out).mono ?_
      rintro e w3 ⟨v3, rfl, o3, b3⟩
      rw [unE_iff.2 (rfl : escL l1 = escL l1)] at o3 ⊢
      obtain ⟨a3, c3, rfl, r3, hc3, _⟩ := o3.reads
      replace r3 : Reads w3 a3 (nb l1).length (nb l1) := r3
      have hk3 : (nb ((some l1).getD [])).length = 2000 := (nb_length _).trans HLN.out
      rw [hk3] at hc3 ⊢
      rw [nb_length, HLN.out] at r3
      have K3 := Lib.hid (below_next K2.out b3)
      have HR4 := Lib.hid (HR3.out.below b3)
      have R3 := Lib.hid r3
      have C3 := Lib.hid hc3
      clear b3 o3 r3 hc3 hk3
      dsimp only [Option.isSome]
      go_wp2_with fail
      refine (resc_is a' 2000 c l1 w3 HR4.out (by omega) (by have := HL1.out; omega)).mono ?_
      rintro e w4 ⟨rfl, b4⟩
      rw [HX.out]
      have K4 := Lib.hid (below_next K3.out b4)
      have HR5 := Lib.hid (HR4.out.below b4)
      have R4 := Lib.hid (R3.out.below b4)
      have hxx : (x.toList != x.toList) = false := by simp
      clear b4
      go_wp2_with fail
      refine (equal_alike a3 a' 2000 c3 c (nb l1) (nb l1) w4 R4.out HR5.out (by unfold maxLen; omega)).mono ?_
      rintro e w5 ⟨rfl, m5, rfl⟩
      rw [sameB_self]
      have K5 := Lib.hid (below_next K4.out (below_drewN w4 m5))
      go_wp2_with fail
      refine (pune_is (s) _ rfl (w4.drewN m5) HLS.out).mono ?_
      rintro e w6 ⟨v6, rfl, o6, b6⟩
      obtain ⟨a6, c6, rfl, r6, hc6, _⟩ := o6.reads
      have K6 := Lib.hid (below_next K5.out b6)
      clear o6 b6
      obtain ⟨o, ho⟩ : ∃ o, unE (s).data.toList = o := ⟨_, rfl⟩
      rw [ho] at r6 hc6 ⊢
      obtain ⟨n6, hn6⟩ : ∃ k, (nb (o.getD [])).length = k := ⟨_, rfl⟩
      rw [hn6] at r6 hc6 ⊢
      have R6 := Lib.hid r6
      have C6 := Lib.hid hc6
      have HO := Lib.hid ho
      have N6 := Lib.hid hn6
      clear r6 hc6 ho hn6
      go_wp2_with fail
      refine (rune_is (s) _ rfl w6 HLS.out).mono ?_
      rintro e w7 ⟨v7, rfl, o7, b7⟩
      obtain ⟨a7, c7, rfl, r7, hc7, _⟩ := o7.reads
      rw [HO.out, N6.out] at r7 hc7 ⊢
      have K7 := Lib.hid (below_next K6.out b7)
      have R7 := Lib.hid r7
      have R8 := Lib.hid (R6.out.below b7)
      have hn6 : n6 ≤ 20000 := by
        rw [← N6.out, nb_length]
        cases o with
        | none => simp
        | some z =>
          have h8 := unE_iff.1 HO.out
          have h9 := HLS.out
          have h10 := (escL_length z).1
          have h11 : z.length ≤ (escL z).length := escL_ge z
          rw [h8] at h11
          exact Nat.le_trans h11 h9
      clear o7 b7 r7 hc7
      have eqs : Hid (Calls Tryd.prog 23 #[.slice a6 n6 c6, .slice a7 n6 c7] w7 fun e w' => e = .returned (.bool true) ∧ ∃ m, w7.drewN m = w') :=
        (equal_alike a6 a7 n6 c6 c7 (nb (o.getD [])) (nb (o.getD [])) w7 R8.out R7.out (by unfold maxLen; omega)).mono fun _ _ h => by rw [sameB_self] at h; exact h
      cases o with
      | none =>
        dsimp only [Option.isSome]
        go_wp2_with fail
        refine eqs.out.mono ?_
        rintro e w8 ⟨rfl, m8, rfl⟩
        have K8 := Lib.hid (below_next K7.out (below_drewN w7 m8))
        go_wp2_with fail
        go_ret
        exact ⟨rfl, K8.out⟩
      | some z =>
        dsimp only [Option.isSome]
        go_wp2_with fail
        refine eqs.out.mono ?_
        rintro e w8 ⟨rfl, m8, rfl⟩
        have K8 := Lib.hid (below_next K7.out (below_drewN w7 m8))
        go_wp2_with fail
        have hz : Hid (strB (escL z) = .string (s)) := by
          rw [unE_iff.1 HO.out]
          unfold strB
          exact Lib.hid (congrArg Value.string rfl)
        have hzl : z.length = n6 := (nb_length z).symm.trans N6.out
        refine (pesc_is a6 n6 c6 z (w7.drewN m8) (R8.out.below (below_drewN w7 m8)) C6.out (by omega)).mono ?_
        rintro e w9 ⟨rfl, b9⟩
        rw [hz.out]
        have K9 := Lib.hid (below_next K8.out b9)
        have hss : ((s).toList == (s).toList) = true := by simp
        clear b9
        go_wp2_with fail
        go_ret
        exact ⟨rfl, K9.out⟩
  · have g1 : ¬ (2000 : Int) < (n : Int) := by omega
    obtain ⟨l1, rfl⟩ : ∃ l1, l1 = l := ⟨_, rfl⟩
    have hl1 : l1.length = n := by have h9 := HR1.out.1; rw [nb_length] at h9; exact h9
    have HLN := Lib.hid hl1
    have HR2 := HR1
    by_cases h2 : 2000 < s.size
    · have g2 : (2000 : Int) < (s.size : Int) := by omega
      have HL1 := Lib.hid hl1
      obtain ⟨x, hx⟩ : ∃ x, strB (escL l1) = .string x := ⟨_, rfl⟩
      have hxd : x.data.toList = escL l1 := by unfold strB at hx; injection hx with hx; rw [← hx]
      have hxl : (escL l1).length ≤ 20000 := by have := (escL_length l1).2; omega
      have HX := Lib.hid hx
      have HXD := Lib.hid hxd
      have HXL := Lib.hid hxl
      have HLS := Lib.hid (show (s.extract 0 2000).data.toList.length ≤ 20000 by rw [← Lib.size_eq]; rw [ByteArray.size_extract]; omega)
      clear hl1 hx hxd hxl
      go_wp2_with fail
      refine (pesc_is a n c l1 w1 HR2.out (by omega) (by have := HL1.out; omega)).mono ?_
      rintro e w2 ⟨rfl, b2⟩
      rw [HX.out]
      have K2 := Lib.hid (below_next K1.out b2)
      have HR3 := Lib.hid (HR2.out.below b2)
      clear b2
      go_wp2_with fail
      refine (pune_is x _ HXD.out w2 HXL.out).mono ?_
      rintro e w3 ⟨v3, rfl, o3, b3⟩
      rw [unE_iff.2 (rfl : escL l1 = escL l1)] at o3 ⊢
      obtain ⟨a3, c3, rfl, r3, hc3, _⟩ := o3.reads
      replace r3 : Reads w3 a3 (nb l1).length (nb l1) := r3
      have hk3 : (nb ((some l1).getD [])).length = n := (nb_length _).trans HLN.out
      rw [hk3] at hc3 ⊢
      rw [nb_length, HLN.out] at r3
      have K3 := Lib.hid (below_next K2.out b3)
      have HR4 := Lib.hid (HR3.out.below b3)
      have R3 := Lib.hid r3
      have C3 := Lib.hid hc3
      clear b3 o3 r3 hc3 hk3
      dsimp only [Option.isSome]
      go_wp2_with fail
      refine (resc_is a n c l1 w3 HR4.out (by omega) (by have := HL1.out; omega)).mono ?_
      rintro e w4 ⟨rfl, b4⟩
      rw [HX.out]
      have K4 := Lib.hid (below_next K3.out b4)
      have HR5 := Lib.hid (HR4.out.below b4)
      have R4 := Lib.hid (R3.out.below b4)
      have hxx : (x.toList != x.toList) = false := by simp
      clear b4
      go_wp2_with fail
      refine (equal_alike a3 a n c3 c (nb l1) (nb l1) w4 R4.out HR5.out (by unfold maxLen; omega)).mono ?_
      rintro e w5 ⟨rfl, m5, rfl⟩
      rw [sameB_self]
      have K5 := Lib.hid (below_next K4.out (below_drewN w4 m5))
      go_wp2_with fail
      refine (pune_is (s.extract 0 2000) _ rfl (w4.drewN m5) HLS.out).mono ?_
      rintro e w6 ⟨v6, rfl, o6, b6⟩
      obtain ⟨a6, c6, rfl, r6, hc6, _⟩ := o6.reads
      have K6 := Lib.hid (below_next K5.out b6)
      clear o6 b6
      obtain ⟨o, ho⟩ : ∃ o, unE (s.extract 0 2000).data.toList = o := ⟨_, rfl⟩
      rw [ho] at r6 hc6 ⊢
      obtain ⟨n6, hn6⟩ : ∃ k, (nb (o.getD [])).length = k := ⟨_, rfl⟩
      rw [hn6] at r6 hc6 ⊢
      have R6 := Lib.hid r6
      have C6 := Lib.hid hc6
      have HO := Lib.hid ho
      have N6 := Lib.hid hn6
      clear r6 hc6 ho hn6
      go_wp2_with fail
      refine (rune_is (s.extract 0 2000) _ rfl w6 HLS.out).mono ?_
      rintro e w7 ⟨v7, rfl, o7, b7⟩
      obtain ⟨a7, c7, rfl, r7, hc7, _⟩ := o7.reads
      rw [HO.out, N6.out] at r7 hc7 ⊢
      have K7 := Lib.hid (below_next K6.out b7)
      have R7 := Lib.hid r7
      have R8 := Lib.hid (R6.out.below b7)
      have hn6 : n6 ≤ 20000 := by
        rw [← N6.out, nb_length]
        cases o with
        | none => simp
        | some z =>
          have h8 := unE_iff.1 HO.out
          have h9 := HLS.out
          have h10 := (escL_length z).1
          have h11 : z.length ≤ (escL z).length := escL_ge z
          rw [h8] at h11
          exact Nat.le_trans h11 h9
      clear o7 b7 r7 hc7
      have eqs : Hid (Calls Tryd.prog 23 #[.slice a6 n6 c6, .slice a7 n6 c7] w7 fun e w' => e = .returned (.bool true) ∧ ∃ m, w7.drewN m = w') :=
        (equal_alike a6 a7 n6 c6 c7 (nb (o.getD [])) (nb (o.getD [])) w7 R8.out R7.out (by unfold maxLen; omega)).mono fun _ _ h => by rw [sameB_self] at h; exact h
      cases o with
      | none =>
        dsimp only [Option.isSome]
        go_wp2_with fail
        refine eqs.out.mono ?_
        rintro e w8 ⟨rfl, m8, rfl⟩
        have K8 := Lib.hid (below_next K7.out (below_drewN w7 m8))
        go_wp2_with fail
        go_ret
        exact ⟨rfl, K8.out⟩
      | some z =>
        dsimp only [Option.isSome]
        go_wp2_with fail
        refine eqs.out.mono ?_
        rintro e w8 ⟨rfl, m8, rfl⟩
        have K8 := Lib.hid (below_next K7.out (below_drewN w7 m8))
        go_wp2_with fail
        have hz : Hid (strB (escL z) = .string (s.extract 0 2000)) := by
          rw [unE_iff.1 HO.out]
          unfold strB
          exact Lib.hid (congrArg Value.string rfl)
        have hzl : z.length = n6 := (nb_length z).symm.trans N6.out
        refine (pesc_is a6 n6 c6 z (w7.drewN m8) (R8.out.below (below_drewN w7 m8)) C6.out (by omega)).mono ?_
        rintro e w9 ⟨rfl, b9⟩
        rw [hz.out]
        have K9 := Lib.hid (below_next K8.out b9)
        have hss : ((s.extract 0 2000).toList == (s.extract 0 2000).toList) = true := by simp
        clear b9
        go_wp2_with fail
        go_ret
        exact ⟨rfl, K9.out⟩
    · have g2 : ¬ (2000 : Int) < (s.size : Int) := by omega
      have HL1 := Lib.hid hl1
      obtain ⟨x, hx⟩ : ∃ x, strB (escL l1) = .string x := ⟨_, rfl⟩
      have hxd : x.data.toList = escL l1 := by unfold strB at hx; injection hx with hx; rw [← hx]
      have hxl : (escL l1).length ≤ 20000 := by have := (escL_length l1).2; omega
      have HX := Lib.hid hx
      have HXD := Lib.hid hxd
      have HXL := Lib.hid hxl
      have HLS := Lib.hid (show (s).data.toList.length ≤ 20000 by rw [← Lib.size_eq]; omega)
      clear hl1 hx hxd hxl
      go_wp2_with fail
      refine (pesc_is a n c l1 w1 HR2.out (by omega) (by have := HL1.out; omega)).mono ?_
      rintro e w2 ⟨rfl, b2⟩
      rw [HX.out]
      have K2 := Lib.hid (below_next K1.out b2)
      have HR3 := Lib.hid (HR2.out.below b2)
      clear b2
      go_wp2_with fail
      refine (pune_is x _ HXD.out w2 HXL.out).mono ?_
      rintro e w3 ⟨v3, rfl, o3, b3⟩
      rw [unE_iff.2 (rfl : escL l1 = escL l1)] at o3 ⊢
      obtain ⟨a3, c3, rfl, r3, hc3, _⟩ := o3.reads
      replace r3 : Reads w3 a3 (nb l1).length (nb l1) := r3
      have hk3 : (nb ((some l1).getD [])).length = n := (nb_length _).trans HLN.out
      rw [hk3] at hc3 ⊢
      rw [nb_length, HLN.out] at r3
      have K3 := Lib.hid (below_next K2.out b3)
      have HR4 := Lib.hid (HR3.out.below b3)
      have R3 := Lib.hid r3
      have C3 := Lib.hid hc3
      clear b3 o3 r3 hc3 hk3
      dsimp only [Option.isSome]
      go_wp2_with fail
      refine (resc_is a n c l1 w3 HR4.out (by omega) (by have := HL1.out; omega)).mono ?_
      rintro e w4 ⟨rfl, b4⟩
      rw [HX.out]
      have K4 := Lib.hid (below_next K3.out b4)
      have HR5 := Lib.hid (HR4.out.below b4)
      have R4 := Lib.hid (R3.out.below b4)
      have hxx : (x.toList != x.toList) = false := by simp
      clear b4
      go_wp2_with fail
      refine (equal_alike a3 a n c3 c (nb l1) (nb l1) w4 R4.out HR5.out (by unfold maxLen; omega)).mono ?_
      rintro e w5 ⟨rfl, m5, rfl⟩
      rw [sameB_self]
      have K5 := Lib.hid (below_next K4.out (below_drewN w4 m5))
      go_wp2_with fail
      refine (pune_is (s) _ rfl (w4.drewN m5) HLS.out).mono ?_
      rintro e w6 ⟨v6, rfl, o6, b6⟩
      obtain ⟨a6, c6, rfl, r6, hc6, _⟩ := o6.reads
      have K6 := Lib.hid (below_next K5.out b6)
      clear o6 b6
      obtain ⟨o, ho⟩ : ∃ o, unE (s).data.toList = o := ⟨_, rfl⟩
      rw [ho] at r6 hc6 ⊢
      obtain ⟨n6, hn6⟩ : ∃ k, (nb (o.getD [])).length = k := ⟨_, rfl⟩
      rw [hn6] at r6 hc6 ⊢
      have R6 := Lib.hid r6
      have C6 := Lib.hid hc6
      have HO := Lib.hid ho
      have N6 := Lib.hid hn6
      clear r6 hc6 ho hn6
      go_wp2_with fail
      refine (rune_is (s) _ rfl w6 HLS.out).mono ?_
      rintro e w7 ⟨v7, rfl, o7, b7⟩
      obtain ⟨a7, c7, rfl, r7, hc7, _⟩ := o7.reads
      rw [HO.out, N6.out] at r7 hc7 ⊢
      have K7 := Lib.hid (below_next K6.out b7)
      have R7 := Lib.hid r7
      have R8 := Lib.hid (R6.out.below b7)
      have hn6 : n6 ≤ 20000 := by
        rw [← N6.out, nb_length]
        cases o with
        | none => simp
        | some z =>
          have h8 := unE_iff.1 HO.out
          have h9 := HLS.out
          have h10 := (escL_length z).1
          have h11 : z.length ≤ (escL z).length := escL_ge z
          rw [h8] at h11
          exact Nat.le_trans h11 h9
      clear o7 b7 r7 hc7
      have eqs : Hid (Calls Tryd.prog 23 #[.slice a6 n6 c6, .slice a7 n6 c7] w7 fun e w' => e = .returned (.bool true) ∧ ∃ m, w7.drewN m = w') :=
        (equal_alike a6 a7 n6 c6 c7 (nb (o.getD [])) (nb (o.getD [])) w7 R8.out R7.out (by unfold maxLen; omega)).mono fun _ _ h => by rw [sameB_self] at h; exact h
      cases o with
      | none =>
        dsimp only [Option.isSome]
        go_wp2_with fail
        refine eqs.out.mono ?_
        rintro e w8 ⟨rfl, m8, rfl⟩
        have K8 := Lib.hid (below_next K7.out (below_drewN w7 m8))
        go_wp2_with fail
        go_ret
        exact ⟨rfl, K8.out⟩
      | some z =>
        dsimp only [Option.isSome]
        go_wp2_with fail
        refine eqs.out.mono ?_
        rintro e w8 ⟨rfl, m8, rfl⟩
        have K8 := Lib.hid (below_next K7.out (below_drewN w7 m8))
        go_wp2_with fail
        have hz : Hid (strB (escL z) = .string (s)) := by
          rw [unE_iff.1 HO.out]
          unfold strB
          exact Lib.hid (congrArg Value.string rfl)
        have hzl : z.length = n6 := (nb_length z).symm.trans N6.out
        refine (pesc_is a6 n6 c6 z (w7.drewN m8) (R8.out.below (below_drewN w7 m8)) C6.out (by omega)).mono ?_
        rintro e w9 ⟨rfl, b9⟩
        rw [hz.out]
        have K9 := Lib.hid (below_next K8.out b9)
        have hss : ((s).toList == (s).toList) = true := by simp
        clear b9
        go_wp2_with fail
        go_ret
        exact ⟨rfl, K9.out⟩
end Go.Proofs.YtebgejoemlgggaaDoor
