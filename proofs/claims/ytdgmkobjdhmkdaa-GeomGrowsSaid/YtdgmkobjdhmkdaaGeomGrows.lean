/- The law GeomGrows is true for every input: with more segments, or greater ones, or fewer inodes, there is no less room. No condition. -/
import Derived.Test.YtdgmkobjdhmkdaaAwake4
import Derived.Test.YtdgmkobjdhmkdaaGeoOpen
import Derived.Lib.MinMax
import Derived.RegionTactic
import Derived.Deep.RegionHeld3
import Derived.Deep.RegionWith
import Derived.Deep.DeepCutAuto
namespace Go.Proofs.Ytdgmkobjdhmkdaa
open Go.ChangeShapes Go.WideShapes Go.ChangeAt Go.RowKit Go.Sort
set_option linter.unusedVariables false
set_option maxRecDepth 100000

set_option maxHeartbeats 1600000 in
theorem geomGrows_walk (s g i m0 m1 m2 : Int) (w : World) (hs : I64 s) (hg : I64 g) (hi : I64 i) (hm0 : I64 m0) (hm1 : I64 m1) (hm2 : I64 m2) :
    Calls Try.prog 11 #[.agg #[.int .i64 s, .int .i64 g, .int .i64 i], .agg #[.int .i64 m0, .int .i64 m1, .int .i64 m2]] w fun e w' => e = .returned (.bool true) ∧ Below w.heap.size w w' := by
  obtain ⟨s1, s2⟩ := hs
  obtain ⟨g1, g2⟩ := hg
  obtain ⟨i1, i2⟩ := hi
  obtain ⟨p1, p2⟩ := hm0
  obtain ⟨q1, q2⟩ := hm1
  obtain ⟨r1, r2⟩ := hm2
  have hb0 := (below_box w (.cells #[.int .i64 s, .int .i64 g, .int .i64 i] 66)).alloc (by simp) (.cells #[.int .i64 m0, .int .i64 m1, .int .i64 m2] 91)
  have hbox := (box3_new w (.int .i64 s) (.int .i64 g) (.int .i64 i) 66).below (below_box _ (.cells #[.int .i64 m0, .int .i64 m1, .int .i64 m2] 91))
  have hbo2 := box3_new (w.alloc (.cells #[.int .i64 s, .int .i64 g, .int .i64 i] 66)) (.int .i64 m0) (.int .i64 m1) (.int .i64 m2) 91
  rw [show (w.alloc (.cells #[.int .i64 s, .int .i64 g, .int .i64 i] 66)).heap.size = w.heap.size + 1 by simp] at hbo2
  obtain ⟨S, hS, S1, S2⟩ : ∃ S, min s 200 + max 0 (min m0 200) = S ∧ (s ≤ 200 → s ≤ S) ∧ I64 S := ⟨_, rfl, by omega, by unfold I64; omega⟩
  obtain ⟨G, hG, G1, G2⟩ : ∃ G, min g 32 + max 0 (min m1 40) = G ∧ (g ≤ 32 → g ≤ G) ∧ I64 G := ⟨_, rfl, by omega, by unfold I64; omega⟩
  obtain ⟨J, hJ, J1, J2⟩ : ∃ J, max i 2 - max 0 (min m2 200) = J ∧ (2 ≤ i → J ≤ i) ∧ I64 J := ⟨_, rfl, by omega, by unfold I64; omega⟩
  go_enter Try.func11, Try.ntmps11
  go_wp2_with fail
  refine (awake4_true _).mono ?_
  rintro e w1 ⟨rfl, b1⟩
  have hb1 := hb0.trans (b1.mono hb0.size)
  obtain ⟨hg, c0, c1, c2⟩ := hbox.below b1
  obtain ⟨hg2, d0, d1, d2⟩ := hbo2.below b1
  clear hb0 hbox b1 hbo2
  go_wp2_with fail
  have hb2 := hb1.alloc hb1.size (.cells #[.int .i64 S, .int .i64 G, .int .i64 J] 66)
  have hx2 := Box3.below ⟨hg, c0, c1, c2⟩ (below_box w1 (.cells #[.int .i64 S, .int .i64 G, .int .i64 J] 66))
  have hv2 := box3_new w1 (.int .i64 S) (.int .i64 G) (.int .i64 J) 66
  clear c0 c1 c2 d0 d1 d2 hb1 hg2 hS hG hJ
  generalize w1.alloc (.cells #[.int .i64 S, .int .i64 G, .int .i64 J] 66) = w2 at *
  refine (own_any s g i _).mono ?_
  rintro e w3 ⟨rfl, b3⟩
  have hb3 := below_next hb2 b3
  have hx3 := hx2.below b3
  have hv3 := hv2.below b3
  clear hb2 b3 hx2 hv2
  go_wp2_with fail
  obtain ⟨S2a, S2b⟩ := S2
  obtain ⟨G2a, G2b⟩ := G2
  obtain ⟨J2a, J2b⟩ := J2
  by_cases hM : mayB s g i = true
  · have HM := Lib.hid hM
    obtain ⟨hB, h8⟩ := mayB_yes hM
    have HB := Lib.hid hB
    clear hM
    refine (gcheck_yes _ HM.out).mono ?_
    rintro e w4 ⟨rfl, b4⟩
    have hb4 := below_next hb3 b4
    obtain ⟨hg, c0, c1, c2⟩ := hx3.below b4
    obtain ⟨hg2, d0, d1, d2⟩ := hv3.below b4
    clear hb3 b4 hx3 hv3
    by_cases hS : 200 < S
    · clear hB
      go_wp2
      go_ret
      exact ⟨rfl, hb4⟩
    by_cases hG : 32 < G
    · clear hB
      go_wp2
      go_ret
      exact ⟨rfl, hb4⟩
    by_cases hJ : J < 2
    · clear hB
      go_wp2
      go_ret
      exact ⟨rfl, hb4⟩
    have hB' : bnd S G J := by unfold bnd at hB ⊢; omega
    have hr := room_mono hB (S1 (by unfold bnd at hB; omega)) (G1 (by unfold bnd at hB; omega)) (J1 (by unfold bnd at hB; omega)) hB'
    have hrb := room_bd hB
    have hrb' := room_bd hB'
    have hmb := mostI_bd hB'
    have HM' : Hid (mayB S G J = true) := mayB_mk hB' (by omega)
    have HB' := Lib.hid hB'
    have HRR : Hid (mostI S G J * (8 * G) = roomI S G J) := rfl
    clear hB hB' S1 G1 J1
    have six : ∀ w', Below w4.heap.size w4 w' → w'.cell? ⟨w.heap.size, 0, none⟩ = some (.int .i64 s) ∧ w'.cell? ⟨w.heap.size, 1, none⟩ = some (.int .i64 g) ∧ w'.cell? ⟨w.heap.size, 2, none⟩ = some (.int .i64 i) ∧ w'.cell? ⟨w1.heap.size, 0, none⟩ = some (.int .i64 S) ∧ w'.cell? ⟨w1.heap.size, 1, none⟩ = some (.int .i64 G) ∧ w'.cell? ⟨w1.heap.size, 2, none⟩ = some (.int .i64 J) := fun w' b => by
      obtain ⟨_, x0, x1, x2⟩ := Box3.below ⟨hg, c0, c1, c2⟩ b
      obtain ⟨_, y0, y1, y2⟩ := Box3.below ⟨hg2, d0, d1, d2⟩ b
      exact ⟨x0, x1, x2, y0, y1, y2⟩
    have SIX := Lib.hid six
    clear six
    go_upto_region 9 with fail
    go_cut [6, 7] (fun v6 v7 wc => ∃ x y, v6 = .pointer (some ⟨x, 0, none⟩) ∧ v7 = .pointer (some ⟨y, 0, none⟩) ∧ Box3 wc x (.int .i64 s) (.int .i64 g) (.int .i64 i) ∧ Box3 wc y (.int .i64 S) (.int .i64 G) (.int .i64 J) ∧ Below w.heap.size w wc)
    case first =>
      go_region_held3 (fun w' => w'.cell? ⟨w.heap.size, 0, none⟩ = some (.int .i64 s) ∧ w'.cell? ⟨w.heap.size, 1, none⟩ = some (.int .i64 g) ∧ w'.cell? ⟨w.heap.size, 2, none⟩ = some (.int .i64 i) ∧ w'.cell? ⟨w1.heap.size, 0, none⟩ = some (.int .i64 S) ∧ w'.cell? ⟨w1.heap.size, 1, none⟩ = some (.int .i64 G) ∧ w'.cell? ⟨w1.heap.size, 2, none⟩ = some (.int .i64 J))
        (exact SIX.out _ (by repeat (first | with_reducible assumption | with_reducible exact Below.refl _ _ | with_reducible refine Below.drew ?_ | with_reducible refine Below.alloc ?_ (by first | exact Nat.le_refl _ | assumption | (simp; omega) | simp) _ | with_reducible refine Below.setCell ?_ (by first | exact Nat.le_refl _ | assumption | (simp; omega) | simp) _)))
        ((first
          | (go_at_call_of 32 (Value.agg #[Value.int IntKind.i64 s, Value.int IntKind.i64 g, Value.int IntKind.i64 i]); refine (own_any s g i _).mono ?_; rintro e w6 ⟨rfl, b6⟩; have k6 : Below w4.heap.size w4 w6 := below_next (by repeat (first | with_reducible assumption | with_reducible exact Below.refl _ _ | with_reducible refine Below.drew ?_ | with_reducible refine Below.alloc ?_ (by first | exact Nat.le_refl _ | assumption | (simp; omega) | simp) _ | with_reducible refine Below.setCell ?_ (by first | exact Nat.le_refl _ | assumption | (simp; omega) | simp) _)) b6; have s6 := k6.size; (first | (have hq := kept3_two_drew b6; have hk6 := hq.1; have hk6b := hq.2; have m1 := fun o => hq.1.more o; have m2 := fun o => hq.2.more o; obtain ⟨hq1, hq2⟩ := hq; unfold Kept3 at hq1 hq2 m1 m2) | (have hq := kept3_drew b6; have hk6 := hq; have m1 := fun o => hq.more o; unfold Kept3 at hq m1) | have z6 := b6.size))
          | (go_at_call_of 32 (Value.agg #[Value.int IntKind.i64 S, Value.int IntKind.i64 G, Value.int IntKind.i64 J]); refine (own_any S G J _).mono ?_; rintro e w7 ⟨rfl, b7⟩; have k7 : Below w4.heap.size w4 w7 := below_next (by repeat (first | with_reducible assumption | with_reducible exact Below.refl _ _ | with_reducible refine Below.drew ?_ | with_reducible refine Below.alloc ?_ (by first | exact Nat.le_refl _ | assumption | (simp; omega) | simp) _ | with_reducible refine Below.setCell ?_ (by first | exact Nat.le_refl _ | assumption | (simp; omega) | simp) _)) b7; have s7 := k7.size; (first | (have hq := kept3_two b7; have m1 := fun o => hq.1.more o; have m2 := fun o => hq.2.more o; obtain ⟨hq1, hq2⟩ := hq; unfold Kept3 at hq1 hq2 m1 m2) | (have hq := kept3 b7; have m1 := fun o => hq.more o; unfold Kept3 at hq m1) | have z7 := b7.size); (first | (have hk7 := hk6.below b7; have n1 := fun o => hk7.more o; unfold Kept3 at hk7 n1) | (have hk7 := (hk6.more _).below b7; have n1 := fun o => hk7.more o; unfold Kept3 at hk7 n1) | skip); (first | (have hk8 := hk6b.below b7; unfold Kept3 at hk8) | skip))))
      all_goals
        go_wp2_with fail
        go_meet
        refine ⟨_, _, rfl, rfl, ⟨?_, ?_, ?_, ?_⟩, ⟨?_, ?_, ?_, ?_⟩, hb4.trans (Below.mono (B := w4.heap.size) (by repeat (first | with_reducible assumption | with_reducible exact Below.refl _ _ | with_reducible refine Below.drew ?_ | with_reducible refine Below.alloc ?_ (by first | exact Nat.le_refl _ | assumption | (simp; omega) | simp) _ | with_reducible refine Below.setCell ?_ (by first | exact Nat.le_refl _ | assumption | (simp; omega) | simp) _)) hb4.size)⟩
      all_goals (first | (go_simp; done) | (simp; omega))
    case rest =>
      obtain ⟨x, y, rfl, rfl, hx, hy, hb5⟩ := hcut
      clear hb4 c0 c1 c2 d0 d1 d2 hg hg2 SIX
      obtain ⟨hg, c0, c1, c2⟩ := hx
      obtain ⟨hg2, d0, d1, d2⟩ := hy
      have k0 := cell_regrown c0
      have k1 := cell_regrown c1
      have k2 := cell_regrown c2
      have l0 := cell_regrown d0
      have l1 := cell_regrown d1
      have l2 := cell_regrown d2
      go_wp2_with fail
      have t1 : decide (roomI s g i ≤ roomI S G J) = true := decide_eq_true hr
      have t2 : decide (2 * mostI S G J < S) = true := decide_eq_true (by omega)
      have hw1 : IntKind.i64.wrap (2 * mostI S G J) = 2 * mostI S G J := IntWalk.i64_in _ (by omega)
      have hw2 : IntKind.i64.wrap (mostI S G J * (8 * G)) = roomI S G J := by rw [HRR.out]; exact IntWalk.i64_in _ (by omega)
      refine wp_region_quiet_below (by kernel_rfl) (by kernel_rfl) ?_
      repeat (go_big_quiet_step (first
        | (go_at_call_of 33 (Value.agg #[Value.int IntKind.i64 S, Value.int IntKind.i64 G, Value.int IntKind.i64 J]); exact Calls.regrown_of (gcheck_yes _ HM'.out))
        | (go_at_call_of 43 (Value.agg #[Value.int IntKind.i64 S, Value.int IntKind.i64 G, Value.int IntKind.i64 J]); exact Calls.regrown_of (groom_is _ HB'.out))
        | (go_at_call_of 43 (Value.agg #[Value.int IntKind.i64 s, Value.int IntKind.i64 g, Value.int IntKind.i64 i]); exact Calls.regrown_of (groom_is _ HB.out))
        | (go_at_call_of 41 (Value.agg #[Value.int IntKind.i64 S, Value.int IntKind.i64 G, Value.int IntKind.i64 J]); exact Calls.regrown_of (gmost_is _ HB'.out))
        | (go_at_call_of 35 (Value.agg #[Value.int IntKind.i64 S, Value.int IntKind.i64 G, Value.int IntKind.i64 J]); exact Calls.regrown_of (gcap_is _ HB'.out))))
      refine wpQuiet_nil (regrown_name fun w5 b5 => ?_)
      go_wp2
      go_ret
      exact ⟨rfl, below_next hb5 b5⟩
  · have HM : Hid (mayB s g i = false) := by show _ = _; simpa using hM
    clear hM
    refine (gcheck_no _ HM.out).mono ?_
    rintro e w4 ⟨rfl, b4⟩
    have hb4 := below_next hb3 b4
    clear hb3 b4 hx3 hv3
    go_wp2
    go_ret
    exact ⟨rfl, hb4⟩
set_option maxRecDepth 100000 in
theorem geomGrows_lifted (os : Os) (started : os.Started) (H : Type) (enc : TypeId × Value → H) :
    ReturnsInHanded {} Try.checked os 11 .any (Rows.geomGrowsSpec.pre6 enc Try.prog Try.f11 Rows.geomGrowsRow.domain false) (Rows.geomGrowsSpec.post enc Try.prog Try.f11 false true false false) :=
  law_lifted (s := Rows.geomGrowsSpec) started Try.func11 (by kernel_rfl) rfl (fun ds hd => by
        match ds, hd with
        | [_, _], _ => rfl) rfl
      (of_decide_eq_true (by kernel_rfl))
      (ChangeSpec.witness6 (enc := enc) (C := Try.checked) false ⟨#[], #[.agg #[.int .i64 0, .int .i64 0, .int .i64 0], .agg #[.int .i64 0, .int .i64 0, .int .i64 0]], []⟩ 8 (by kernel_rfl) (by kernel_rfl) (by kernel_rfl) (by kernel_rfl))
      (fun W base args ds ps hval hA hsz => by
        rw [Try.params11] at hA hval hsz
        obtain ⟨v0, vs0, d0, ds0, p0, q0, hargs, rfl, rfl, h0, r0⟩ := trodAll_cons hA
        obtain ⟨v1, vs1, d1, ds1, p1, q1, rfl, rfl, rfl, h1, r1⟩ := trodAll_cons r0
        obtain ⟨rfl, rfl, rfl⟩ := trodAll_nil r1
        obtain rfl : args = #[v0, v1] := by cases args; simp_all
        simp only [DataW.weightsEach, List.all_append, Bool.and_eq_true] at hsz
        obtain ⟨z0, z1, _⟩ := hsz
        obtain ⟨s, g, i, rfl, js, jg, ji⟩ := open_geom (hval 0 66 v0 rfl rfl) h0
        obtain ⟨m0, m1, m2, rfl, j0, j1, j2⟩ := open_three (hval 1 91 v1 rfl rfl) h1
        exact geomGrows_walk s g i m0 m1 m2 W js jg ji j0 j1 j2)

theorem geomGrows_holds : Rows.GeomGrowsSaid :=
  OpenClaim.holds_of_wide 11 Try.f11 rfl rfl rfl rfl rfl rfl rfl ⟨rfl, rfl, rfl, rfl, rfl⟩ rfl rfl rfl rfl rfl (by kernel_rfl) Try.func11 (by kernel_rfl)
    (of_decide_eq_true (by kernel_rfl)) (by unfold Func.isWrapper; first | (rw [if_pos (by decide +kernel)]; kernel_rfl) | (rw [if_neg (by decide +kernel)]; exact ⟨rfl, rfl⟩))
    (fun os started H enc _ => geomGrows_lifted os started H enc)
#print axioms geomGrows_holds
end Go.Proofs.Ytdgmkobjdhmkdaa
