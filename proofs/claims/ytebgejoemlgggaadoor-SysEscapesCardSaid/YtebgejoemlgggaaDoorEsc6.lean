/- The document's Unescape. (Printed by wip/gen/esc6.py.) -/
import Derived.Test.YtebgejoemlgggaaDoorEsc5
namespace Go.Proofs.YtebgejoemlgggaaDoor
open Go.RowKit Go.Sort
set_option linter.unusedVariables false
set_option linter.unusedSimpArgs false
set_option maxRecDepth 100000

theorem valR_dig : ∀ n, n < 16 → valR (digN n) = n := by decide
theorem valR_lt : ∀ n, n < 256 → valR n < 16 ∨ valR n = 16 := by decide
theorem dig_valR : ∀ n, n < 256 → valR n ≠ 16 → digN (valR n) = n := by decide
theorem esc_step {c : UInt8} {r b' : Bx} (h : c :: r = escF b') (hc : selfN c.toNat = false) :
    ∃ d e r', c = 37 ∧ r = d :: e :: r' ∧ valR d.toNat ≠ 16 ∧ valR e.toNat ≠ 16 ∧ selfN (16 * valR d.toNat + valR e.toNat) = false := by
  cases b' with
  | nil => cases h
  | cons y b =>
    rw [escF_cons] at h
    unfold esc1 at h
    by_cases hy : selfN y.toNat = true
    · rw [if_pos hy] at h
      have : c = y := (List.cons.inj h).1
      rw [this, hy] at hc
      cases hc
    · rw [if_neg hy] at h
      have hl := y.toNat_lt
      have h1 : valR (digN (y.toNat / 16)) = y.toNat / 16 := valR_dig _ (by omega)
      have h2 : valR (digN (y.toNat % 16)) = y.toNat % 16 := valR_dig _ (by omega)
      have e1 : (UInt8.ofNat (digN (y.toNat / 16))).toNat = digN (y.toNat / 16) := by rw [UInt8.toNat_ofNat']; exact Nat.mod_eq_of_lt (dig_lt _ (by omega))
      have e2 : (UInt8.ofNat (digN (y.toNat % 16))).toNat = digN (y.toNat % 16) := by rw [UInt8.toNat_ofNat']; exact Nat.mod_eq_of_lt (dig_lt _ (by omega))
      refine ⟨_, _, escF b, (List.cons.inj h).1, (List.cons.inj h).2, ?_, ?_, ?_⟩
      · rw [e1, h1]; omega
      · rw [e2, h2]; omega
      · rw [e1, h1, e2, h2, show 16 * (y.toNat / 16) + y.toNat % 16 = y.toNat by omega]
        simpa using hy
theorem esc_back {d e : UInt8} (hd : valR d.toNat ≠ 16) (he : valR e.toNat ≠ 16) (hs : selfN (16 * valR d.toNat + valR e.toNat) = false) :
    (UInt8.ofNat (16 * valR d.toNat + valR e.toNat)).toNat = 16 * valR d.toNat + valR e.toNat ∧ esc1 (UInt8.ofNat (16 * valR d.toNat + valR e.toNat)) = [37, d, e] := by
  have h1 := valR_lt _ d.toNat_lt
  have h2 := valR_lt _ e.toNat_lt
  have e0 : (UInt8.ofNat (16 * valR d.toNat + valR e.toNat)).toNat = 16 * valR d.toNat + valR e.toNat := by rw [UInt8.toNat_ofNat']; exact Nat.mod_eq_of_lt (by omega)
  refine ⟨e0, ?_⟩
  unfold esc1
  rw [e0, if_neg (by rw [hs]; decide), show (16 * valR d.toNat + valR e.toNat) / 16 = valR d.toNat by omega, show (16 * valR d.toNat + valR e.toNat) % 16 = valR e.toNat by omega, dig_valR _ d.toNat_lt hd, dig_valR _ e.toNat_lt he, UInt8.ofNat_toNat, UInt8.ofNat_toNat]
/-- No text of any bytes begins so. -/
theorem unE_stop {l out : Bx} {k : Nat} {c : UInt8} {r : Bx} (hne : l ≠ [37]) (h : escF out ++ l.drop k = l) (hr : l.drop k = c :: r) (hc : selfN c.toNat = false)
    (hno : ¬ ∃ d e r', c = 37 ∧ r = d :: e :: r' ∧ valR d.toNat ≠ 16 ∧ valR e.toNat ≠ 16 ∧ selfN (16 * valR d.toNat + valR e.toNat) = false) : unE l = none := by
  rw [unE_none]
  intro b hb
  by_cases hb0 : b = []
  · exact hne (by rw [← hb, hb0]; rfl)
  · have e1 : escL b = escF b := by unfold escL; rw [if_neg hb0]
    rw [e1, ← h] at hb
    obtain ⟨b', hb'⟩ := esc_cancel out b _ hb.symm
    rw [hr] at hb'
    exact hno (esc_step hb' hc)
theorem toList_is {s : ByteArray} {l : Bx} (h : s.data.toList = l) : s.toList = l := by
  have e : s = ⟨l.toArray⟩ := by rw [← h]
  rw [e]
  simp
set_option maxHeartbeats 1000000 in
theorem rune_is (s : ByteArray) (l : Bx) (hl : s.data.toList = l) (w : World) (hs : l.length ≤ 20000) :
    Calls Tryd.prog 30 #[.string s] w fun e w' => ∃ v, e = .returned (.tuple #[v, .bool (unE l).isSome]) ∧ Owns w.heap.size w' v (nb ((unE l).getD [])) ∧ Below w.heap.size w w' := by
  have hsz : s.size = l.length := by rw [Lib.size_eq, hl]
  have HSZ := Lib.hid hsz
  have hget : ∀ i (h : i < s.size), l[i]? = some (s[i]'h) := fun i h => by rw [← hl]; exact Lib.data_getElem? s i h
  have HG := Lib.hid hget
  have hs2 : (s.size : Int) ≤ 20000 := by omega
  have HL := Lib.hid hl
  have HS3 : Hid (s = ⟨l.toArray⟩) := Lib.hid (by rw [← hl])
  clear hl hsz hget hs
  go_enter Tryd.func30, Tryd.ntmps30
  by_cases hp : l = [37]
  · have HE : Hid (unE l = some []) := Lib.hid (by unfold unE; rw [if_pos hp])
    have hs3 := HS3.out
    have hb : (l == [37]) = true := by rw [hp]; rfl
    clear hp
    go_wp2
    go_ret2
    exact ⟨_, by rw [HE.out]; rfl, by rw [HE.out]; exact owns_nil _ _, Below.refl _ _⟩
  · have hb : (s.toList == [37]) = false := by rw [toList_is HL.out]; simpa using hp
    have HNP := Lib.hid hp
    clear hp
    go_wp2
    go_loopw [4, 5] (fun v i wr => ∃ (k : Nat) (out : Bx), i = .int .i64 (k : Int) ∧ k ≤ s.size ∧ Hid (Owns w.heap.size wr v (nb out)) ∧ Hid (Below w.heap.size w wr) ∧ Hid (out.length ≤ k ∧ escF out ++ l.drop k = l)) (fun _ i _ => s.size - (intOf i).toNat)
    case atStart => exact ⟨0, [], rfl, Nat.zero_le _, Lib.hid (owns_nil _ _), Lib.hid (Below.refl _ _), Lib.hid ⟨Nat.le_refl _, rfl⟩⟩
    case round =>
      obtain ⟨k, out, rfl, hk, HO, HB, HU⟩ := hrel
      by_cases hlt : k < s.size
      · obtain ⟨c, hc⟩ : ∃ c : UInt8, s[k]'hlt = c := ⟨_, rfl⟩
        have hgc := HG.out k hlt
        rw [hc] at hgc
        have HGC := Lib.hid hgc
        have HDR := Lib.hid (drop_cons hgc)
        have HSE := Lib.hid (rself_is c.toNat c.toNat_lt wr)
        have hlo : (nb out).length ≤ 20000 := by rw [nb_length]; have := HU.out.1; omega
        have HLE := Lib.hid hlo
        clear hgc hlo
        cases hse : selfN c.toNat
        · rw [hse] at HSE
          go_wp2_with fail
          refine HSE.out.mono ?_
          rintro e0 w1 ⟨rfl, rfl⟩
          have HNO := Lib.hid (unE_stop HNP.out HU.out.2 HDR.out hse)
          have HDN := Lib.hid (below_drewN w1)
          clear hse HSE
          by_cases h37 : c = 37
          · have h37b : ((c.toNat : Int) == 37) = true := by rw [h37]; rfl
            by_cases h2 : k + 2 < s.size
            · have h22 : decide ((s.size : Int) ≤ (k : Int) + 2) = false := decide_eq_false (by omega)
              obtain ⟨d, hd⟩ : ∃ c : UInt8, s[k + 1]'(by omega) = c := ⟨_, rfl⟩
              obtain ⟨e, he⟩ : ∃ c : UInt8, s[k + 2]'h2 = c := ⟨_, rfl⟩
              have g1 := HG.out (k + 1) (by omega)
              have g2 := HG.out (k + 2) h2
              rw [hd] at g1
              rw [he] at g2
              have HD1 := Lib.hid (drop_cons g1)
              have HD2 := Lib.hid (drop_cons g2)
              have hk1 : IntKind.i64.wrap ((k : Int) + 1) = (k : Int) + 1 := IntWalk.i64_in _ (by omega)
              have hk2 : IntKind.i64.wrap ((k : Int) + 2) = (k : Int) + 2 := IntWalk.i64_in _ (by omega)
              have q1 := run_idx s (k + 1) (by omega) d hd ((k : Int) + 1) (by omega)
              have q2 := run_idx s (k + 2) h2 e he ((k : Int) + 2) (by omega)
              have HV1 := Lib.hid (fun W => rvalue_is d.toNat d.toNat_lt W)
              have HV2 := Lib.hid (fun W => rvalue_is e.toNat e.toNat_lt W)
              have hv1 := valR_lt _ d.toNat_lt
              have hv2 := valR_lt _ e.toNat_lt
              have HBK := Lib.hid (fun (h1 : valR d.toNat ≠ 16) (h2 : valR e.toNat ≠ 16) h3 => esc_back h1 h2 h3)
              clear hd he g1 g2
              obtain ⟨x1, hx1⟩ : ∃ x, valR d.toNat = x := ⟨_, rfl⟩
              obtain ⟨x2, hx2⟩ : ∃ x, valR e.toNat = x := ⟨_, rfl⟩
              rw [hx1] at HV1 hv1 HBK
              rw [hx2] at HV2 hv2 HBK
              have HX1 := Lib.hid hx1
              have HX2 := Lib.hid hx2
              clear hx1 hx2
              by_cases h16 : x1 = 16
              · have HE : Hid (unE l = none) := Lib.hid (HNO.out (by
                  rintro ⟨d', e', r', _, hr, h3, _⟩
                  rw [HD1.out] at hr
                  obtain ⟨rfl, _⟩ := List.cons.inj hr
                  exact h3 (HX1.out.trans h16)))
                subst h16
                clear hv1 hv2 q2 hk2
                go_wp2_with fail
                refine (HV1.out _).mono ?_
                rintro e9 w9 ⟨rfl, rfl⟩
                go_wp2
                go_ret2
                exact ⟨_, by rw [HE.out]; rfl, by rw [HE.out]; exact owns_nil _ _, HB.out⟩
              · by_cases h17 : x2 = 16
                · have HE : Hid (unE l = none) := Lib.hid (HNO.out (by
                    rintro ⟨d', e', r', _, hr, _, h3, _⟩
                    rw [HD1.out, HD2.out] at hr
                    obtain ⟨_, hr⟩ := List.cons.inj hr
                    obtain ⟨rfl, _⟩ := List.cons.inj hr
                    exact h3 (HX2.out.trans h17)))
                  have h16b : ((x1 : Int) == 16) = false := by simp; omega
                  subst h17
                  clear hv1 hv2 h16
                  go_wp2_with fail
                  refine (HV1.out _).mono ?_
                  rintro e9 w9 ⟨rfl, rfl⟩
                  go_wp2_with fail
                  refine (HV2.out _).mono ?_
                  rintro e9 w9 ⟨rfl, rfl⟩
                  go_wp2
                  go_ret2
                  exact ⟨_, by rw [HE.out]; rfl, by rw [HE.out]; exact owns_nil _ _, HB.out⟩
                · have h16b : ((x1 : Int) == 16) = false := by simp; omega
                  have h17b : ((x2 : Int) == 16) = false := by simp; omega
                  have y1 : (x1 : Int) ≤ 15 := by omega
                  have y2 : (x2 : Int) ≤ 15 := by omega
                  have y3 : (0 : Int) ≤ (x1 : Int) := by omega
                  have y4 : (0 : Int) ≤ (x2 : Int) := by omega
                  have HY := Lib.hid (And.intro h16 h17)
                  clear hv1 hv2 h16 h17
                  go_wp2_with fail
                  refine (HV1.out _).mono ?_
                  rintro e9 w9 ⟨rfl, rfl⟩
                  go_wp2_with fail
                  refine (HV2.out _).mono ?_
                  rintro e9 w9 ⟨rfl, rfl⟩
                  go_wp2
                  go_quiet ((first | (go_at_call 62; with_reducible exact Calls.quiet_of_same (HV1.out _)) | (go_at_call 62; with_reducible exact Calls.quiet_of_same (HV2.out _)) | fail))
                  have HOq := Lib.hid (HO.out.below (below_drewN w9 nq))
                  have HBq := Lib.hid (below_next HB.out (below_drewN w9 nq))
                  generalize w9.drewN nq = wk at *
                  clear HO HB q1 q2 hk1 hk2 HV1 HV2 hc
                  have HO := HOq
                  have HB := HBq
                  clear HOq HBq
                  have hxl : 16 * x1 + x2 < 256 := by have := HY.out; omega
                  obtain ⟨x, hx⟩ : ∃ x, UInt8.ofNat (16 * x1 + x2) = x := ⟨_, rfl⟩
                  have hxn : x.toNat = 16 * x1 + x2 := by rw [← hx, UInt8.toNat_ofNat']; exact Nat.mod_eq_of_lt hxl
                  have hxi : 16 * (x1 : Int) + (x2 : Int) = (x.toNat : Int) := by rw [hxn]; omega
                  have HSX := Lib.hid (fun W => rself_is x.toNat x.toNat_lt W)
                  have HX := Lib.hid (And.intro hx hxn)
                  clear hxl hx hxn y1 y2 y3 y4 h16b h17b
                  rw [hxi]
                  clear hxi
                  cases hsx : selfN x.toNat
                  · rw [hsx] at HSX
                    have hxs : selfN (16 * x1 + x2) = false := by rw [← HX.out.2]; exact hsx
                    have hbk := HBK.out HY.out.1 HY.out.2 hxs
                    rw [HX.out.1] at hbk
                    have HST : Hid ((out ++ [x]).length ≤ k + 3 ∧ escF (out ++ [x]) ++ l.drop (k + 3) = l) := Lib.hid (by
                      rw [List.length_append, List.length_singleton]
                      refine ⟨by have := HU.out.1; omega, ?_⟩
                      have e1 : escF [x] = [37, d, e] := by show esc1 x ++ [] = _; rw [hbk.2]; rfl
                      rw [escF_append, e1, List.append_assoc]
                      have h := HU.out.2
                      rw [HDR.out, HD1.out, HD2.out, h37] at h
                      exact h)
                    clear hsx hxs hbk
                    go_wp2_with fail
                    refine (HSX.out _).mono ?_
                    rintro e0 w1 ⟨rfl, rfl⟩
                    have kx := below_box w1 (.cells #[.int .u8 (x.toNat : Int)] 5)
                    have HRD := Lib.hid (reads_one w1 x.toNat x.toNat_lt)
                    have HO2 := Lib.hid (HO.out.below kx)
                    have HB2 := Lib.hid (below_next HB.out kx)
                    clear kx HB HO
                    go_wp2_with (at_builtin; refine wpList_append_bytes rfl _ _ rfl w.heap.size _ (nb out) rfl HO2.out (some ⟨w1.heap.size, 0, none⟩) 1 1 rfl [x.toNat] HRD.out (by have := HLE.out; omega) HB2.out.size ?_; intro v9 w9 o9 g9)
                    have HB9 := Lib.hid (HB2.out.grown g9 HB2.out.size (fun j hj => HO2.out.lt j hj))
                    have HO9 := Lib.hid o9
                    clear o9 g9 HO2 HB2
                    go_wp2
                    go_roundw
                    case rel => exact ⟨k + 3, out ++ [x], by go_num, by omega, by rw [nb_snoc]; exact HO9, HB9, HST⟩
                    case measure => simp [intOf]; omega
                  · rw [hsx] at HSX
                    have HE : Hid (unE l = none) := Lib.hid (HNO.out (by
                      rintro ⟨d', e', r', _, hr, _, _, h3⟩
                      rw [HD1.out, HD2.out] at hr
                      obtain ⟨k1, hr⟩ := List.cons.inj hr
                      obtain ⟨k2, _⟩ := List.cons.inj hr
                      rw [← k1, ← k2, HX1.out, HX2.out, ← HX.out.2, hsx] at h3
                      cases h3))
                    clear hsx
                    go_wp2_with fail
                    refine (HSX.out _).mono ?_
                    rintro e0 w1 ⟨rfl, rfl⟩
                    go_wp2
                    go_ret2
                    exact ⟨_, by rw [HE.out]; rfl, by rw [HE.out]; exact owns_nil _ _, HB.out⟩
            · have h22 : decide ((s.size : Int) ≤ (k : Int) + 2) = true := decide_eq_true (by omega)
              have HE : Hid (unE l = none) := Lib.hid (HNO.out (by
                rintro ⟨d', e', r', _, hr, _⟩
                have h9 := congrArg List.length hr
                rw [List.length_drop, List.length_cons, List.length_cons] at h9
                have := HSZ.out
                omega))
              go_wp2
              go_ret2
              exact ⟨_, by rw [HE.out]; rfl, by rw [HE.out]; exact owns_nil _ _, HB.out⟩
          · have h37b : ((c.toNat : Int) == 37) = false := by
              have : c.toNat ≠ 37 := fun e => h37 (UInt8.toNat_inj.1 e)
              simp; omega
            have h37d : ((c.toNat : Int) != 37) = true := by rw [bne, h37b]; rfl
            have HE : Hid (unE l = none) := Lib.hid (HNO.out (by rintro ⟨d', e', r', hh, _⟩; exact h37 hh))
            clear h37
            go_wp2
            go_ret2
            exact ⟨_, by rw [HE.out]; rfl, by rw [HE.out]; exact owns_nil _ _, HB.out⟩
        · rw [hse] at HSE
          go_wp2_with fail
          refine HSE.out.mono ?_
          rintro e0 w1 ⟨rfl, rfl⟩
          have HST : Hid ((out ++ [c]).length ≤ k + 1 ∧ escF (out ++ [c]) ++ l.drop (k + 1) = l) := Lib.hid (by
            rw [List.length_append, List.length_singleton]
            refine ⟨by have := HU.out.1; omega, ?_⟩
            have e1 : escF [c] = [c] := by show esc1 c ++ [] = [c]; unfold esc1; rw [if_pos hse]; rfl
            rw [escF_append, e1, List.append_assoc, List.singleton_append, ← HDR.out]
            exact HU.out.2)
          clear hse HSE
          have kx := below_box w1 (.cells #[.int .u8 (c.toNat : Int)] 5)
          have HRD := Lib.hid (reads_one w1 c.toNat c.toNat_lt)
          have HO2 := Lib.hid (HO.out.below kx)
          have HB2 := Lib.hid (below_next HB.out kx)
          clear kx HB HO
          go_wp2_with (at_builtin; refine wpList_append_bytes rfl _ _ rfl w.heap.size _ (nb out) rfl HO2.out (some ⟨w1.heap.size, 0, none⟩) 1 1 rfl [c.toNat] HRD.out (by have := HLE.out; omega) HB2.out.size ?_; intro v9 w9 o9 g9)
          have HB9 := Lib.hid (HB2.out.grown g9 HB2.out.size (fun j hj => HO2.out.lt j hj))
          have HO9 := Lib.hid o9
          clear o9 g9 HO2 HB2
          go_wp2
          go_roundw
          case rel => exact ⟨k + 1, out ++ [c], by go_num, by omega, by rw [nb_snoc]; exact HO9, HB9, HST⟩
          case measure => simp [intOf]; omega
      · obtain rfl : k = s.size := by omega
        have hun : escF out = l := by
          have h := HU.out.2
          rw [List.drop_of_length_le (by rw [← HSZ.out]; exact Nat.le_refl _), List.append_nil] at h
          exact h
        generalize u4 = v4 at *
        by_cases h0 : s.size = 0
        · have hl0 : l = [] := List.length_eq_zero_iff.1 (by rw [← HSZ.out]; exact h0)
          have ho0 : out = [] := List.length_eq_zero_iff.1 (by have := HU.out.1; omega)
          have HE : Hid (unE l = none) := Lib.hid (by rw [hl0]; decide)
          rw [ho0] at HO
          have h00 : decide ((0 : Int) < (s.size : Int)) = false := decide_eq_false (by omega)
          have h01 : decide (0 < s.size) = false := decide_eq_false (by omega)
          clear hl0 hun
          go_wp2
          go_ret2
          exact ⟨_, by rw [HE.out]; rfl, by rw [HE.out]; exact HO.out, HB.out⟩
        · have ho0 : out ≠ [] := fun e => by rw [e] at hun; exact h0 (by rw [HSZ.out, ← hun]; rfl)
          have HE : Hid (unE l = some out) := Lib.hid (unE_iff.2 (by unfold escL; rw [if_neg ho0]; exact hun))
          have h00 : decide ((0 : Int) < (s.size : Int)) = true := decide_eq_true (by omega)
          have h01 : decide (0 < s.size) = true := decide_eq_true (by omega)
          clear hun
          go_wp2
          go_ret2
          exact ⟨_, by rw [HE.out]; rfl, by rw [HE.out]; exact HO.out, HB.out⟩
end Go.Proofs.YtebgejoemlgggaaDoor
