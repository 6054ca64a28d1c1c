/- usage.Load: what is refused. -/
import Derived.Test.YtnlbjpnhepdicaaLoad9
namespace Go.Proofs.Ytnlbjpnhepdicaa
open Go.RowKit Go.Sort
set_option linter.unusedVariables false
set_option linter.unusedSimpArgs false
set_option maxRecDepth 100000

theorem tload_len (room : Int) (a : Option Addr) (cap n : Nat) (w : World) (hroom : I64 room) (hn : n = 0 ∨ 200 < n) (hn2 : n ≤ 1000000) :
    Calls Try.prog 29 #[.int .i64 room, .slice a n cap] w (NoneE w) := by
  have HRM := Lib.hid hroom
  obtain ⟨m, hm⟩ : ∃ m : Nat, clampI 200 (n : Int) = m := Int.eq_ofNat_of_zero_le (by unfold clampI; omega)
  have HCL := Lib.hid hm
  have hne : ((m : Int) != (n : Int)) = true := by
    have : m ≠ n := by unfold clampI at hm; omega
    simp
    omega
  have hI : I64 (n : Int) := ⟨by omega, by omega⟩
  have HI := Lib.hid hI
  clear hroom hm hI hn
  go_enter Try.func29, Try.ntmps29
  go_wp2_with fail
  refine (tnew_is (n : Int) room w HI.out HRM.out m HCL.out).mono ?_
  rintro e w1 ⟨g, gs, rfl, t1, b1⟩
  have T1 := Lib.hid t1
  have B1 := Lib.hid b1
  clear t1 b1
  go_wp2_with fail
  refine (tsegs_is T1.out).mono ?_
  rintro e w2 ⟨rfl, rfl⟩
  rw [List.length_replicate]
  go_wp2
  go_ret2
  exact ⟨rfl, B1.out⟩
set_option maxHeartbeats 4000000 in
theorem tload_bad (room : Int) (a : Option Addr) (cap : Nat) (us : List UseD) (w : World) (hr : ReadsR w a 3 (usesV us)) (hroom : I64 room) (hl1 : 1 ≤ us.length) (hl2 : us.length ≤ 200) (hage : ∀ u ∈ us, 0 ≤ u.age ∧ u.age < 4294967296) (m : Nat) (bad : UseD) (hm : us[m]? = some bad) (hbad : badU (clampI 4096 room) bad = true) (hfst : ∀ j u, j < m → us[j]? = some u → badU (clampI 4096 room) u = false) :
    Calls Try.prog 29 #[.int .i64 room, .slice a us.length cap] w (NoneE w) := by
  have HR := Lib.hid hr
  have HRM := Lib.hid hroom
  obtain ⟨R, hR⟩ : ∃ R, clampI 4096 room = R := ⟨_, rfl⟩
  rw [hR] at hbad hfst
  have HRR := Lib.hid hR
  have HOK := Lib.hid (fun j u (hj : j < m) (hu : us[j]? = some u) => (⟨(bad_of (hfst j u hj hu)).1, (bad_of (hfst j u hj hu)).2.1, (bad_of (hfst j u hj hu)).2.2.1, (bad_of (hfst j u hj hu)).2.2.2, hage u (List.mem_of_getElem? hu)⟩ : UseOk R u))
  have hmn : m < us.length := (List.getElem?_eq_some_iff.1 hm).1
  have HMB := Lib.hid hm
  have HBAD := Lib.hid hbad
  obtain ⟨n, hnn⟩ : ∃ n, us.length = n := ⟨_, rfl⟩
  have HN := Lib.hid hnn
  rw [hnn] at hl1 hl2 hmn ⊢
  have hcl : clampI 200 (n : Int) = n := by unfold clampI; omega
  have HCL := Lib.hid hcl
  have hI : I64 (n : Int) := ⟨by omega, by omega⟩
  have HI := Lib.hid hI
  have hne : ((n : Int) != (n : Int)) = false := by simp
  clear hr hroom hR hage hm hbad hfst hnn hcl hI
  go_enter Try.func29, Try.ntmps29
  go_wp2_with fail
  refine (tnew_is (n : Int) room w HI.out HRM.out n HCL.out).mono ?_
  rintro e w1 ⟨g, gs, rfl, t1, b1⟩
  rw [HRR.out] at t1
  have T1 := Lib.hid t1
  have B1 := Lib.hid b1
  clear t1 b1
  go_wp2_with fail
  refine (tsegs_is T1.out).mono ?_
  rintro e w2 ⟨rfl, rfl⟩
  rw [List.length_replicate]
  go_wp2
  go_loopw [20] (fun x20 wr => ∃ k : Nat, k ≤ m ∧ x20 = .int .i64 k ∧ Hid (IsTab w.heap.size wr g gs R (mixL us k n)) ∧ Hid (Below w.heap.size w wr)) (fun i _ => m - (intOf i).toNat)
  case atStart => exact ⟨0, Nat.zero_le _, rfl, by show IsTab _ _ _ _ _ _; rw [mixL_zero]; exact T1.out, B1.out⟩
  case round =>
    obtain ⟨k, hk, rfl, HT, HB⟩ := hrel
    have hlt : k < n := by omega
    by_cases hkm : k < m
    · obtain ⟨u, hrow⟩ : ∃ r, us[k]? = some r := ⟨_, List.getElem?_eq_getElem (by rw [HN.out]; exact hlt)⟩
      have hou := HOK.out k u hkm hrow
      have HOU := Lib.hid hou
      obtain ⟨u1, u2, u3, u4, _, _⟩ := hou
      obtain ⟨b, off, rfl, hb, hc⟩ := (HR.out.below HB.out).row (usesV_get hrow)
      have d0 : wr.cell? ⟨b, off + k * 3, none⟩ = some (.int .i64 u.live) := hc 0 _ rfl
      have d1 : wr.cell? ⟨b, off + k * 3 + 1, none⟩ = some (.int .i64 u.state) := by have := hc 1 _ rfl; rwa [← Nat.add_assoc] at this
      have d2 : wr.cell? ⟨b, off + k * 3 + 2, none⟩ = some (.int .u32 u.age) := by have := hc 2 _ rfl; rwa [← Nat.add_assoc] at this
      have hx1 : (0 : Int) ≤ (k : Int) := by omega
      have hx2 : (k : Int) < (n : Int) := by omega
      have hmg := mixL_get (us := us) hlt HN.out
      have hml := mixL_length us k n (by omega) HN.out
      have HPUT := Lib.hid (fun W (hW : IsTab w.heap.size W g gs R (mixL us k n)) => tab_put hW hmg HOU.out)
      have HMS : Hid ((mixL us k n).set k u = mixL us (k + 1) n) := mixL_set hlt HN.out hrow
      have b3 := below_box wr (.cells #[.int .i64 u.live, .int .i64 u.state, .int .u32 u.age] 47)
      have ht3 := HT.out.below b3
      obtain ⟨e0, e1⟩ := tab_facts ht3
      rw [hml] at e1
      obtain ⟨f0, f1⟩ := tab_facts HT.out
      obtain ⟨r0, r1, r2⟩ := tab_row ht3 hmg
      obtain ⟨l1, l2⟩ := tab_lt HT.out
      have hf := fun j => tab_free ht3 j
      have hf0 := hf (k * 3)
      have hf1 := hf (k * 3 + 1)
      have hf2 := hf (k * 3 + 2)
      have HT3 := Lib.hid ht3
      have HB3 := Lib.hid (below_next HB.out b3)
      clear hc hrow hb hmg hml b3 ht3 hf f0 f1
      have t0 : decide (u.live < 0) = false := decide_eq_false (by omega)
      have t1' : decide (R < u.live) = false := decide_eq_false (by omega)
      go_wp2_with fail
      go_quiet ((go_at_call 88; exact Calls.quiet_of_same ((isState_yes u.state _ u3 u4).mono fun _ _ ⟨h1, h2⟩ => ⟨h1, h2.symm⟩)))
      go_wp2
      go_region
      go_wp2
      have hp := HPUT.out _ (HT3.out.below (below_drewN _ nq))
      rw [HMS.out] at hp
      have hq := hp.1.below (below_drew _)
      have hb := (HT3.out.below (below_drewN _ nq)).2.1.grown (HB3.out.trans ((below_drewN _ nq).mono HB3.out.size)) HB3.out.size hp.2
      go_roundw
      case rel => exact ⟨k + 1, by omega, by go_num, hq, hb.trans ((below_drew _).mono hb.size)⟩
      case measure => simp [intOf]; omega
    · have hkn : k = m := by omega
      subst hkn
      obtain ⟨u, hrow⟩ : ∃ r, us[k]? = some r := ⟨_, HMB.out⟩
      obtain rfl : u = bad := Option.some.inj (hrow.symm.trans HMB.out)
      have hbad := HBAD.out
      obtain ⟨b, off, rfl, hb, hc⟩ := (HR.out.below HB.out).row (usesV_get hrow)
      have d0 : wr.cell? ⟨b, off + k * 3, none⟩ = some (.int .i64 u.live) := hc 0 _ rfl
      have d1 : wr.cell? ⟨b, off + k * 3 + 1, none⟩ = some (.int .i64 u.state) := by have := hc 1 _ rfl; rwa [← Nat.add_assoc] at this
      have d2 : wr.cell? ⟨b, off + k * 3 + 2, none⟩ = some (.int .u32 u.age) := by have := hc 2 _ rfl; rwa [← Nat.add_assoc] at this
      have hx1 : (0 : Int) ≤ (k : Int) := by omega
      have hx2 : (k : Int) < (n : Int) := by omega
      have b3 := below_box wr (.cells #[.int .i64 u.live, .int .i64 u.state, .int .u32 u.age] 47)
      have ht3 := HT.out.below b3
      obtain ⟨e0, e1⟩ := tab_facts ht3
      have HB3 := Lib.hid (below_next HB.out b3)
      clear hc hrow hb b3 ht3
      by_cases q1 : u.live < 0
      · have t0 : decide (u.live < 0) = true := decide_eq_true q1
        clear hbad
        go_wp2_with fail
        go_quiet (fail)
        go_wp2
        go_ret2
        exact ⟨rfl, HB3.out.trans ((below_drewN _ nq).mono HB3.out.size)⟩
      · have t0 : decide (u.live < 0) = false := decide_eq_false q1
        by_cases q2 : R < u.live
        · have t1' : decide (R < u.live) = true := decide_eq_true q2
          clear hbad
          go_wp2_with fail
          go_quiet (fail)
          go_wp2
          go_ret2
          exact ⟨rfl, HB3.out.trans ((below_drewN _ nq).mono HB3.out.size)⟩
        · have t1' : decide (R < u.live) = false := decide_eq_false q2
          have q3 : u.state < 0 ∨ 3 < u.state := by
            unfold badU at hbad
            simp at hbad
            omega
          have Q3 := Lib.hid q3
          clear hbad q3
          go_wp2_with fail
          go_quiet ((go_at_call 88; exact Calls.quiet_of_same ((isState_no u.state _ Q3.out).mono fun _ _ ⟨h1, h2⟩ => ⟨h1, h2.symm⟩)))
          go_wp2
          go_ret2
          exact ⟨rfl, HB3.out.trans ((below_drewN _ nq).mono HB3.out.size)⟩
end Go.Proofs.Ytnlbjpnhepdicaa
