/- The law GeomPlaces is true for every input: each sector is one thing: the superblock, of a region, a summary, or a block. No condition. -/
import Derived.Test.YtdgmkobjdhmkdaaGPlaces
import Derived.Test.YtdgmkobjdhmkdaaAwake4
import Derived.Test.YtdgmkobjdhmkdaaGeoOpen
import Derived.Lib.MinMax
import Derived.Deep.DeepCutAuto
namespace Go.Proofs.Ytdgmkobjdhmkdaa
open Go.ChangeShapes Go.WideShapes Go.ChangeAt Go.RowKit Go.Sort
set_option linter.unusedVariables false
set_option maxRecDepth 100000

theorem box6_facts {w : World} {g : Nat} {v0 v1 v2 v3 v4 v5 : Value} {t : TypeId} (h : w.heap[g]? = some (.cells #[v0, v1, v2, v3, v4, v5] t (0, 0))) : w.cell? ⟨g, 0, none⟩ = some v0 ∧ w.cell? ⟨g, 1, none⟩ = some v1 ∧ w.cell? ⟨g, 2, none⟩ = some v2 ∧ w.cell? ⟨g, 3, none⟩ = some v3 ∧ w.cell? ⟨g, 4, none⟩ = some v4 ∧ w.cell? ⟨g, 5, none⟩ = some v5 := by
  refine ⟨?_, ?_, ?_, ?_, ?_, ?_⟩ <;> (unfold World.cell?; rw [h]; rfl)

set_option maxHeartbeats 3200000 in
theorem geomPlaces_walk (s g i at_ : Int) (w : World) (hat : I64 at_) :
    Calls Try.prog 9 #[.agg #[.int .i64 s, .int .i64 g, .int .i64 i], .int .i64 at_] w fun e w' => e = .returned (.bool true) ∧ Below w.heap.size w w' := by
  have hb0 := below_box w (.cells #[.int .i64 s, .int .i64 g, .int .i64 i] 66)
  have hbox := box3_new w (.int .i64 s) (.int .i64 g) (.int .i64 i) 66
  cases hM : mayB s g i with
  | false =>
    have HM := Lib.hid hM
    clear hM
    go_enter Try.func9, Try.ntmps9
    go_wp2_with fail
    refine (awake4_true _).mono ?_
    rintro e w1 ⟨rfl, b1⟩
    have hb1 := below_next hb0 b1
    obtain ⟨hgx, c0, c1, c2⟩ := hbox.below b1
    clear hb0 hbox b1
    go_wp2_with fail
    refine (rmay_is false _ HM.out).mono ?_
    rintro e w2 ⟨rfl, b2⟩
    have hb2 := below_next hb1 b2
    clear hb1 b2 c0 c1 c2
    go_wp2
    go_ret
    exact ⟨rfl, hb2⟩
  | true =>
    have HM := Lib.hid hM
    obtain ⟨hB, _⟩ := mayB_yes hM
    have HB := Lib.hid hB
    have hbd := hB
    unfold bnd at hbd
    have hsg := segs_bd hB
    have hsec := sectors_bd hB
    have hrb := reg_bd hB
    obtain ⟨sn, rfl⟩ := Int.eq_ofNat_of_zero_le (show 0 ≤ s by omega)
    obtain ⟨gn, rfl⟩ := Int.eq_ofNat_of_zero_le (show 0 ≤ g by omega)
    obtain ⟨jn, rfl⟩ := Int.eq_ofNat_of_zero_le (show 0 ≤ i by omega)
    obtain ⟨R, hR⟩ : ∃ R : Nat, (R : Int) = regI sn jn := ⟨(regI sn jn).toNat, by omega⟩
    have HR := Lib.hid hR
    obtain ⟨K, hK⟩ : ∃ K : Nat, 1 + 2 * R + 9 * (sn * gn) = K := ⟨_, rfl⟩
    have hKs : (K : Int) = sectorsI sn gn jn := by rw [← hK]; unfold sectorsI logI; rw [← hR]; simp; omega
    have HKS := Lib.hid hKs
    have HK := Lib.hid hK
    have hKb : 79 ≤ K ∧ K ≤ 57671 := by omega
    have hpl : ∀ k : Nat, k < K → PlaceOk sn gn jn k (partAt R gn k) := fun k hk => place_ok hB hR (by omega)
    have HPL := Lib.hid hpl
    have hsgw : wrap64 ((sn : Int) * gn) = (sn : Int) * gn := IntWalk.wrap64_in _ (by omega)
    clear hM hB hR hK hKs hpl hrb
    go_enter Try.func9, Try.ntmps9
    go_wp2_with fail
    refine (awake4_true _).mono ?_
    rintro e w1 ⟨rfl, b1⟩
    have hb1 := below_next hb0 b1
    obtain ⟨hgx, c0, c1, c2⟩ := hbox.below b1
    clear hb0 hbox b1
    go_wp2_with fail
    refine (rmay_is true _ HM.out).mono ?_
    rintro e w2 ⟨rfl, b2⟩
    have hb2 := below_next hb1 b2
    have hx2 := Box3.below ⟨hgx, c0, c1, c2⟩ b2
    clear hb1 b2 c0 c1 c2 hgx
    obtain ⟨hgx, c0, c1, c2⟩ := hx2
    by_cases hbig : (1200 : Int) < (sn : Int) * gn
    · go_wp2
      go_ret
      exact ⟨rfl, hb2⟩
    go_wp2_with fail
    refine (own_any _ _ _ _).mono ?_
    rintro e w3 ⟨rfl, b3⟩
    have hb3 := below_next hb2 b3
    have hx3 := Box3.below ⟨hgx, c0, c1, c2⟩ b3
    have hb4 := hb3.alloc hb3.size (.cells #[.int .i64 sn, .int .i64 gn, .int .i64 jn] 67)
    have hx4 := hx3.below (below_box w3 (.cells #[.int .i64 sn, .int .i64 gn, .int .i64 jn] 67))
    have hy4 := box3_new w3 (.int .i64 sn) (.int .i64 gn) (.int .i64 jn) 67
    clear hb2 b3 c0 c1 c2 hgx hb3 hx3
    obtain ⟨hgx, c0, c1, c2⟩ := hx4
    go_wp2_with fail
    generalize w3.alloc (.cells #[.int .i64 sn, .int .i64 gn, .int .i64 jn] 67) = w4 at *
    refine (rparts_is _ HB.out HR.out).mono ?_
    rintro e w5 ⟨v, rfl, ho, b5⟩
    rw [HK.out] at ho
    obtain ⟨pa, pc, rfl, hrq, hpc, hpm⟩ := ho.reads (by rw [partsQ_length]; omega)
    rw [partsQ_length] at hpc ⊢
    unfold maxLen at hpm
    have hb5 := below_next hb4 b5
    have hx5 := Box3.below ⟨hgx, c0, c1, c2⟩ b5
    have hy5 := hy4.below b5
    clear hb4 b5 c0 c1 c2 hgx hy4 ho
    obtain ⟨hgx, c0, c1, c2⟩ := hx5
    obtain ⟨hgy, d0, d1, d2⟩ := hy5
    have hrq5 := hrq
    clear hrq
    have HR2 : Hid (regionI sn jn 2 = -1) := by show _ = _; unfold regionI; rw [if_neg (by omega)]
    have HR3 : Hid (regionI sn jn (-1) = -1) := by show _ = _; unfold regionI; rw [if_neg (by omega)]
    go_wp2_with fail
    refine (gsectors _ HB.out).mono ?_
    rintro e w6 ⟨rfl, b6⟩
    rw [← HKS.out]
    have hb6 := below_next hb5 b6
    have hxn := Box3.below ⟨hgx, c0, c1, c2⟩ b6
    have hyn := Box3.below ⟨hgy, d0, d1, d2⟩ b6
    have hrq6 := hrq5.below b6
    clear hb5 b6 c0 c1 c2 hgx d0 d1 d2 hgy hrq5
    obtain ⟨hgx, c0, c1, c2⟩ := hxn
    obtain ⟨hgy, d0, d1, d2⟩ := hyn
    go_wp2_with fail
    refine (gregion 2 _ HB.out).mono ?_
    rintro e w7 ⟨rfl, b7⟩
    rw [HR2.out]
    have hb7 := below_next hb6 b7
    have hxn := Box3.below ⟨hgx, c0, c1, c2⟩ b7
    have hyn := Box3.below ⟨hgy, d0, d1, d2⟩ b7
    have hrq7 := hrq6.below b7
    clear hb6 b7 c0 c1 c2 hgx d0 d1 d2 hgy hrq6
    obtain ⟨hgx, c0, c1, c2⟩ := hxn
    obtain ⟨hgy, d0, d1, d2⟩ := hyn
    go_wp2_with fail
    refine (gregion (-1) _ HB.out).mono ?_
    rintro e w8 ⟨rfl, b8⟩
    rw [HR3.out]
    have hb8 := below_next hb7 b8
    have hxn := Box3.below ⟨hgx, c0, c1, c2⟩ b8
    have hyn := Box3.below ⟨hgy, d0, d1, d2⟩ b8
    have hrq8 := hrq7.below b8
    clear hb7 b8 c0 c1 c2 hgx d0 d1 d2 hgy hrq7
    obtain ⟨hgx, c0, c1, c2⟩ := hxn
    obtain ⟨hgy, d0, d1, d2⟩ := hyn
    go_wp2_with fail
    refine (gsummary_no sn 0 _ HB.out (by unfold inI; omega)).mono ?_
    rintro e w9 ⟨rfl, b9⟩
    have hb9 := below_next hb8 b9
    have hxn := Box3.below ⟨hgx, c0, c1, c2⟩ b9
    have hyn := Box3.below ⟨hgy, d0, d1, d2⟩ b9
    have hrq9 := hrq8.below b9
    clear hb8 b9 c0 c1 c2 hgx d0 d1 d2 hgy hrq8
    obtain ⟨hgx, c0, c1, c2⟩ := hxn
    obtain ⟨hgy, d0, d1, d2⟩ := hyn
    go_wp2_with fail
    refine (gsummary_no 0 gn _ HB.out (by unfold inI; omega)).mono ?_
    rintro e w10 ⟨rfl, b10⟩
    have hb10 := below_next hb9 b10
    have hxn := Box3.below ⟨hgx, c0, c1, c2⟩ b10
    have hyn := Box3.below ⟨hgy, d0, d1, d2⟩ b10
    have hrq10 := hrq9.below b10
    clear hb9 b10 c0 c1 c2 hgx d0 d1 d2 hgy hrq9
    obtain ⟨hgx, c0, c1, c2⟩ := hxn
    obtain ⟨hgy, d0, d1, d2⟩ := hyn
    go_wp2_with fail
    refine (gblock_no 0 0 8 _ HB.out (by omega)).mono ?_
    rintro e w11 ⟨rfl, b11⟩
    have hb11 := below_next hb10 b11
    have hxn := Box3.below ⟨hgx, c0, c1, c2⟩ b11
    have hyn := Box3.below ⟨hgy, d0, d1, d2⟩ b11
    have hrq11 := hrq10.below b11
    clear hb10 b11 c0 c1 c2 hgx d0 d1 d2 hgy hrq10
    obtain ⟨hgx, c0, c1, c2⟩ := hxn
    obtain ⟨hgy, d0, d1, d2⟩ := hyn
    go_wp2_with fail
    refine (gblock_no (-1) 0 0 _ HB.out (by unfold inI; omega)).mono ?_
    rintro e w12 ⟨rfl, b12⟩
    have hb12 := below_next hb11 b12
    have hxn := Box3.below ⟨hgx, c0, c1, c2⟩ b12
    have hyn := Box3.below ⟨hgy, d0, d1, d2⟩ b12
    have hrq12 := hrq11.below b12
    clear hb11 b12 c0 c1 c2 hgx d0 d1 d2 hgy hrq11
    obtain ⟨hgx, c0, c1, c2⟩ := hxn
    obtain ⟨hgy, d0, d1, d2⟩ := hyn
    go_wp2_with fail
    have HX : Hid (Box3 w12 w.heap.size (.int .i64 (sn : Int)) (.int .i64 (gn : Int)) (.int .i64 (jn : Int))) := ⟨hgx, c0, c1, c2⟩
    have HY : Hid (Box3 w12 w3.heap.size (.int .i64 (sn : Int)) (.int .i64 (gn : Int)) (.int .i64 (jn : Int))) := ⟨hgy, d0, d1, d2⟩
    obtain ⟨pb, off, rfl, hql, hqc⟩ := hrq12
    have HQC := Lib.hid hqc
    clear c0 c1 c2 d0 d1 d2 hgx hgy hqc hsgw
    go_loopw [79] (fun i wr => ∃ k : Nat, k ≤ K ∧ i = .int .i64 k ∧ Below w12.heap.size w12 wr) (fun i _ => K - (intOf i).toNat)
    case atStart => exact ⟨0, by omega, rfl, Below.refl _ _⟩
    case round =>
      obtain ⟨k, hk, rfl, hb⟩ := hrel
      by_cases hkK : k < K
      · have hp : (partsQ R gn K)[k]? = some (partAt R gn k) := by simp [partsQ, hkK]
        have hok := HPL.out k hkK
        have hce := fun j u hu => (hb.cell (p := ⟨pb, off + k * 6 + j, none⟩) hql).trans (HQC.out k _ hp j u hu)
        clear hp
        generalize partAt R gn k = p at *
        obtain ⟨pk, pn, pi, ps, pg, pt⟩ := p
        have e0 := hce 0 _ rfl
        have e1 := hce 1 _ rfl
        have e2 := hce 2 _ rfl
        have e3 := hce 3 _ rfl
        have e4 := hce 4 _ rfl
        have e5 := hce 5 _ rfl
        clear hce
        rw [Nat.add_zero] at e0
        unfold PlaceOk at hok
        simp only at hok
        have hi1 : (0 : Int) ≤ (k : Int) ∧ (k : Int) < (K : Int) := by omega
        rcases hok with ⟨rfl, hnw, rfl, rfl, rfl, rfl, rfl⟩ | ⟨rfl, hnw, hreg, hpi, rfl⟩ | ⟨rfl, hnw, hin, hgr⟩ | ⟨rfl, hw, hin, hpt, hq1, hq2, hq3, hgr⟩
        · have hb1 := hb.alloc hb.size (.cells #[.int .i64 (0 : Int), .int .i64 (0 : Int), .int .i64 (0 : Int), .int .i64 (0 : Int), .int .i64 (0 : Int), .int .i64 (0 : Int)] 77)
          have hx1 := HX.out.below hb1
          have hy1 := HY.out.below hb1
          have hg1 := heap_alloc_new wr (.cells #[.int .i64 (0 : Int), .int .i64 (0 : Int), .int .i64 (0 : Int), .int .i64 (0 : Int), .int .i64 (0 : Int), .int .i64 (0 : Int)] 77)
          clear hb
          obtain ⟨hgx, c0, c1, c2⟩ := hx1
          obtain ⟨hgy, d0, d1, d2⟩ := hy1
          go_wp2_with fail
          generalize wr.alloc (.cells #[.int .i64 (0 : Int), .int .i64 (0 : Int), .int .i64 (0 : Int), .int .i64 (0 : Int), .int .i64 (0 : Int), .int .i64 (0 : Int)] 77) = W1 at *
          refine (gwhere_no (k : Int) _ ⟨by omega, by omega⟩ HB.out hnw).mono ?_
          rintro e W2 ⟨rfl, b2⟩
          have hb2 := below_next hb1 b2
          have hx2 := Box3.below ⟨hgx, c0, c1, c2⟩ b2
          have hy2 := Box3.below ⟨hgy, d0, d1, d2⟩ b2
          have hg2 : W2.heap[wr.heap.size]? = some (.cells #[.int .i64 (0 : Int), .int .i64 (0 : Int), .int .i64 (0 : Int), .int .i64 (0 : Int), .int .i64 (0 : Int), .int .i64 (0 : Int)] 77 (0, 0)) := by rw [b2.block _ (Array.getElem?_eq_some_iff.1 hg1).1]; exact hg1
          clear hb1 b2 hg1 e0 e1 e2 e3 e4 e5 hgx c0 c1 c2 hgy d0 d1 d2
          obtain ⟨f0, f1, f2, f3, f4, f5⟩ := box6_facts hg2
          obtain ⟨hgx, c0, c1, c2⟩ := hx2
          obtain ⟨hgy, d0, d1, d2⟩ := hy2
          go_wp2
          go_roundw
          case rel => exact ⟨k + 1, by omega, by go_num, hb2⟩
          case measure => simp [intOf]; omega
        · have HCR : Hid (∀ W, Calls Try.prog 48 #[.agg #[.int .i64 sn, .int .i64 gn, .int .i64 jn], .int .i64 (pn : Int)] W fun e w' => e = .returned (.int .i64 ((k : Int) - (pi : Int))) ∧ Below W.heap.size W w') := fun W => by
            have := gregion (pn : Int) W HB.out
            rwa [hreg] at this
          clear hreg
          have hb1 := hb.alloc hb.size (.cells #[.int .i64 (1 : Int), .int .i64 (pn : Int), .int .i64 (pi : Int), .int .i64 (0 : Int), .int .i64 (pg : Int), .int .i64 (pt : Int)] 77)
          have hx1 := HX.out.below hb1
          have hy1 := HY.out.below hb1
          have hg1 := heap_alloc_new wr (.cells #[.int .i64 (1 : Int), .int .i64 (pn : Int), .int .i64 (pi : Int), .int .i64 (0 : Int), .int .i64 (pg : Int), .int .i64 (pt : Int)] 77)
          clear hb
          obtain ⟨hgx, c0, c1, c2⟩ := hx1
          obtain ⟨hgy, d0, d1, d2⟩ := hy1
          go_wp2_with fail
          generalize wr.alloc (.cells #[.int .i64 (1 : Int), .int .i64 (pn : Int), .int .i64 (pi : Int), .int .i64 (0 : Int), .int .i64 (pg : Int), .int .i64 (pt : Int)] 77) = W1 at *
          refine (gwhere_no (k : Int) _ ⟨by omega, by omega⟩ HB.out hnw).mono ?_
          rintro e W2 ⟨rfl, b2⟩
          have hb2 := below_next hb1 b2
          have hx2 := Box3.below ⟨hgx, c0, c1, c2⟩ b2
          have hy2 := Box3.below ⟨hgy, d0, d1, d2⟩ b2
          have hg2 : W2.heap[wr.heap.size]? = some (.cells #[.int .i64 (1 : Int), .int .i64 (pn : Int), .int .i64 (pi : Int), .int .i64 (0 : Int), .int .i64 (pg : Int), .int .i64 (pt : Int)] 77 (0, 0)) := by rw [b2.block _ (Array.getElem?_eq_some_iff.1 hg1).1]; exact hg1
          clear hb1 b2 hg1 e0 e1 e2 e3 e4 e5 hgx c0 c1 c2 hgy d0 d1 d2
          obtain ⟨f0, f1, f2, f3, f4, f5⟩ := box6_facts hg2
          obtain ⟨hgx, c0, c1, c2⟩ := hx2
          obtain ⟨hgy, d0, d1, d2⟩ := hy2
          go_wp2_with fail
          have k0 := cell_regrown c0
          have k1 := cell_regrown c1
          have k2 := cell_regrown c2
          have l0 := cell_regrown d0
          have l1 := cell_regrown d1
          have l2 := cell_regrown d2
          have m0 := cell_regrown f0
          have m1 := cell_regrown f1
          have m2 := cell_regrown f2
          have hwk : IntKind.i64.wrap ((k : Int) - (pi : Int) + (pi : Int)) = k := by rw [Int.sub_add_cancel]; exact IntWalk.i64_in _ (by omega)
          have hne : ((k : Int) != k) = false := by simp
          refine wp_region_quiet_below (by kernel_rfl) (by kernel_rfl) ?_
          repeat (go_big_quiet_step (first
            | (go_at_call 48; exact Calls.regrown_of (HCR.out _))))
          refine wpQuiet_nil (regrown_name fun W3 b3 => ?_)
          have hb3 := hb2.trans (b3.mono hb2.size)
          clear k0 k1 k2 l0 l1 l2 m0 m1 m2
          go_wp2
          go_roundw
          case rel => exact ⟨k + 1, by omega, by go_num, hb3⟩
          case measure => simp [intOf]; omega
        · have HCR : Hid (∀ W, Calls Try.prog 49 #[.agg #[.int .i64 sn, .int .i64 gn, .int .i64 jn], .int .i64 (ps : Int), .int .i64 (pg : Int)] W fun e w' => e = .returned (.int .i64 (k : Int)) ∧ Below W.heap.size W w') := fun W => by
            have := gsummary (ps : Int) (pg : Int) W HB.out hin
            rwa [hgr] at this
          clear hgr
          cases hz : ((0 : Int) != (ps : Int))
          all_goals
            have hb1 := hb.alloc hb.size (.cells #[.int .i64 (2 : Int), .int .i64 (pn : Int), .int .i64 (pi : Int), .int .i64 (ps : Int), .int .i64 (pg : Int), .int .i64 (pt : Int)] 77)
            have hx1 := HX.out.below hb1
            have hy1 := HY.out.below hb1
            have hg1 := heap_alloc_new wr (.cells #[.int .i64 (2 : Int), .int .i64 (pn : Int), .int .i64 (pi : Int), .int .i64 (ps : Int), .int .i64 (pg : Int), .int .i64 (pt : Int)] 77)
            clear hb
            obtain ⟨hgx, c0, c1, c2⟩ := hx1
            obtain ⟨hgy, d0, d1, d2⟩ := hy1
            go_wp2_with fail
            generalize wr.alloc (.cells #[.int .i64 (2 : Int), .int .i64 (pn : Int), .int .i64 (pi : Int), .int .i64 (ps : Int), .int .i64 (pg : Int), .int .i64 (pt : Int)] 77) = W1 at *
            refine (gwhere_no (k : Int) _ ⟨by omega, by omega⟩ HB.out hnw).mono ?_
            rintro e W2 ⟨rfl, b2⟩
            have hb2 := below_next hb1 b2
            have hx2 := Box3.below ⟨hgx, c0, c1, c2⟩ b2
            have hy2 := Box3.below ⟨hgy, d0, d1, d2⟩ b2
            have hg2 : W2.heap[wr.heap.size]? = some (.cells #[.int .i64 (2 : Int), .int .i64 (pn : Int), .int .i64 (pi : Int), .int .i64 (ps : Int), .int .i64 (pg : Int), .int .i64 (pt : Int)] 77 (0, 0)) := by rw [b2.block _ (Array.getElem?_eq_some_iff.1 hg1).1]; exact hg1
            clear hb1 b2 hg1 e0 e1 e2 e3 e4 e5 hgx c0 c1 c2 hgy d0 d1 d2
            obtain ⟨f0, f1, f2, f3, f4, f5⟩ := box6_facts hg2
            obtain ⟨hgx, c0, c1, c2⟩ := hx2
            obtain ⟨hgy, d0, d1, d2⟩ := hy2
            go_wp2_with fail
            have hne : ((k : Int) != k) = false := by simp
            refine (HCR.out _).mono ?_
            rintro e W3 ⟨rfl, b3⟩
            have hb3 := hb2.trans (b3.mono hb2.size)
            clear b3
            go_wp2
            go_roundw
            case rel => exact ⟨k + 1, by omega, by go_num, hb3⟩
            case measure => simp [intOf]; omega
        · have HCB : Hid (∀ W, Calls Try.prog 50 #[.agg #[.int .i64 sn, .int .i64 gn, .int .i64 jn], .int .i64 (ps : Int), .int .i64 (pg : Int), .int .i64 (pt : Int)] W fun e w' => e = .returned (.int .i64 (k : Int)) ∧ Below W.heap.size W w') := fun W => by
            have := gblock (ps : Int) (pg : Int) (pt : Int) W HB.out hin (by omega)
            rwa [hgr] at this
          have HCR : Hid (∀ W, Calls Try.prog 52 #[.agg #[.int .i64 sn, .int .i64 gn, .int .i64 jn], .int .i64 (ps : Int), .int .i64 (pg : Int), .int .i64 (pt : Int)] W fun e w' => e = .returned (.int .i64 (k : Int)) ∧ Below W.heap.size W w') := fun W => by
            have := rblock_is (ps : Int) (pg : Int) (pt : Int) W HB.out hin (by omega)
            rwa [hgr] at this
          have HCW : Hid (∀ W, Calls Try.prog 51 #[.agg #[.int .i64 sn, .int .i64 gn, .int .i64 jn], .int .i64 (k : Int)] W fun e w' => e = .returned (.tuple #[.int .i64 (ps : Int), .int .i64 (pg : Int), .int .i64 (pt : Int), .bool true]) ∧ Below W.heap.size W w') := fun W => by
            have := gwhere_yes (k : Int) W HB.out hw
            rwa [hq1, hq2, hq3] at this
          clear hgr hq1 hq2 hq3
          have hb1 := hb.alloc hb.size (.cells #[.int .i64 (3 : Int), .int .i64 (pn : Int), .int .i64 (pi : Int), .int .i64 (ps : Int), .int .i64 (pg : Int), .int .i64 (pt : Int)] 77)
          have hx1 := HX.out.below hb1
          have hy1 := HY.out.below hb1
          have hg1 := heap_alloc_new wr (.cells #[.int .i64 (3 : Int), .int .i64 (pn : Int), .int .i64 (pi : Int), .int .i64 (ps : Int), .int .i64 (pg : Int), .int .i64 (pt : Int)] 77)
          clear hb
          obtain ⟨hgx, c0, c1, c2⟩ := hx1
          obtain ⟨hgy, d0, d1, d2⟩ := hy1
          go_wp2_with fail
          generalize wr.alloc (.cells #[.int .i64 (3 : Int), .int .i64 (pn : Int), .int .i64 (pi : Int), .int .i64 (ps : Int), .int .i64 (pg : Int), .int .i64 (pt : Int)] 77) = W1 at *
          refine (HCW.out _).mono ?_
          rintro e W2 ⟨rfl, b2⟩
          have hb2 := below_next hb1 b2
          have hx2 := Box3.below ⟨hgx, c0, c1, c2⟩ b2
          have hy2 := Box3.below ⟨hgy, d0, d1, d2⟩ b2
          have hg2 : W2.heap[wr.heap.size]? = some (.cells #[.int .i64 (3 : Int), .int .i64 (pn : Int), .int .i64 (pi : Int), .int .i64 (ps : Int), .int .i64 (pg : Int), .int .i64 (pt : Int)] 77 (0, 0)) := by rw [b2.block _ (Array.getElem?_eq_some_iff.1 hg1).1]; exact hg1
          clear hb1 b2 hg1 e0 e1 e2 e3 e4 e5 hgx c0 c1 c2 hgy d0 d1 d2
          obtain ⟨f0, f1, f2, f3, f4, f5⟩ := box6_facts hg2
          obtain ⟨hgx, c0, c1, c2⟩ := hx2
          obtain ⟨hgy, d0, d1, d2⟩ := hy2
          have hn1 : ((ps : Int) != ps) = false := by simp
          have hn2 : ((pg : Int) != pg) = false := by simp
          have hn3 : ((pt : Int) != pt) = false := by simp
          have hne : ((k : Int) != k) = false := by simp
          go_wp2_with fail
          refine (HCB.out _).mono ?_
          rintro e W3 ⟨rfl, b3⟩
          have hb3 := hb2.trans (b3.mono hb2.size)
          obtain ⟨hgx', g0, g1, g2⟩ := Box3.below ⟨hgx, c0, c1, c2⟩ b3
          clear b3 c0 c1 c2 hgx d0 d1 d2 f0 f1 f2 f3 f4 f5 hb2 hg2
          go_wp2_with fail
          refine (HCR.out _).mono ?_
          rintro e W4 ⟨rfl, b4⟩
          have hb4 := hb3.trans (b4.mono hb3.size)
          clear b4
          go_wp2
          go_roundw
          case rel => exact ⟨k + 1, by omega, by go_num, hb4⟩
          case measure => simp [intOf]; omega
      · obtain ⟨hgx, c0, c1, c2⟩ := HX.out.below hb
        obtain ⟨hgy, d0, d1, d2⟩ := HY.out.below hb
        have hlg := log_bd HB.out
        have hks : (K : Int) = sectorsI sn gn jn := HKS.out
        obtain ⟨h1, h2⟩ := hat
        have hm1 : ¬ whereP sn gn jn (min at_ (-1)) := fun hw => by have := hw.1; omega
        have hm2 : ¬ whereP sn gn jn (max at_ (K : Int)) := fun hw => by have := hw.2.1; omega
        have HM1 := Lib.hid hm1
        have HM2 := Lib.hid hm2
        have hbf := hb12.trans (hb.mono hb12.size)
        clear hks hm1 hm2 hb hk
        go_wp2_with fail
        refine (gwhere_no (min at_ (-1)) _ ⟨by omega, by omega⟩ HB.out HM1.out).mono ?_
        rintro e W1 ⟨rfl, b1⟩
        have hb1 := below_next hbf b1
        obtain ⟨hgz, g0, g1, g2⟩ := Box3.below ⟨hgy, d0, d1, d2⟩ b1
        clear b1 d0 d1 d2 hgy c0 c1 c2 hgx hbf
        go_wp2_with fail
        refine (gwhere_no (max at_ (K : Int)) _ ⟨by omega, by omega⟩ HB.out HM2.out).mono ?_
        rintro e W2 ⟨rfl, b2⟩
        have hb2 := below_next hb1 b2
        clear b2 hb1
        have hK6 : decide ((K : Int) ≤ 65536) = true := decide_eq_true (by omega)
        go_wp2
        go_ret
        exact ⟨rfl, hb2⟩
set_option maxRecDepth 100000 in
theorem geomPlaces_lifted (os : Os) (started : os.Started) (H : Type) (enc : TypeId × Value → H) :
    ReturnsInHanded {} Try.checked os 9 .any (Rows.geomPlacesSpec.pre6 enc Try.prog Try.f9 Rows.geomPlacesRow.domain false) (Rows.geomPlacesSpec.post enc Try.prog Try.f9 false true false false) :=
  law_lifted (s := Rows.geomPlacesSpec) started Try.func9 (by kernel_rfl) rfl (fun ds hd => by
        match ds, hd with
        | [_, _], _ => rfl) rfl
      (of_decide_eq_true (by kernel_rfl))
      (ChangeSpec.witness6 (enc := enc) (C := Try.checked) false ⟨#[], #[.agg #[.int .i64 0, .int .i64 0, .int .i64 0], .int .i64 0], []⟩ 8 (by kernel_rfl) (by kernel_rfl) (by kernel_rfl) (by kernel_rfl))
      (fun W base args ds ps hval hA hsz => by
        rw [Try.params9] at hA hval hsz
        obtain ⟨v0, vs0, d0, ds0, p0, q0, hargs, rfl, rfl, h0, r0⟩ := trodAll_cons hA
        obtain ⟨v1, vs1, d1, ds1, p1, q1, rfl, rfl, rfl, h1, r1⟩ := trodAll_cons r0
        obtain ⟨rfl, rfl, rfl⟩ := trodAll_nil r1
        obtain rfl : args = #[v0, v1] := by cases args; simp_all
        simp only [DataW.weightsEach, List.all_append, Bool.and_eq_true] at hsz
        obtain ⟨z0, z1, _⟩ := hsz
        obtain ⟨s, g, i, rfl, _, _, _⟩ := open_geom (hval 0 66 v0 rfl rfl) h0
        obtain ⟨at_, rfl, rfl, rfl, wf⟩ := open_int Try.underlying3 (hval 1 3 v1 rfl rfl) h1
        exact geomPlaces_walk s g i at_ W (i64_of_wf wf))

theorem geomPlaces_holds : Rows.GeomPlacesSaid :=
  OpenClaim.holds_of_wide 9 Try.f9 rfl rfl rfl rfl rfl rfl rfl ⟨rfl, rfl, rfl, rfl, rfl⟩ rfl rfl rfl rfl rfl (by kernel_rfl) Try.func9 (by kernel_rfl)
    (of_decide_eq_true (by kernel_rfl)) (by unfold Func.isWrapper; first | (rw [if_pos (by decide +kernel)]; kernel_rfl) | (rw [if_neg (by decide +kernel)]; exact ⟨rfl, rfl⟩))
    (fun os started H enc _ => geomPlaces_lifted os started H enc)
#print axioms geomPlaces_holds
end Go.Proofs.Ytdgmkobjdhmkdaa
