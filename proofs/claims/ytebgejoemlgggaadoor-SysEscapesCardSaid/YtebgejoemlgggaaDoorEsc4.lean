/- The document's Escape. -/
import Derived.Test.YtebgejoemlgggaaDoorEsc2
import Derived.Test.YtebgejoemlgggaaDoorEsc3
namespace Go.Proofs.YtebgejoemlgggaaDoor
open Go.RowKit Go.Sort
set_option linter.unusedVariables false
set_option linter.unusedSimpArgs false
set_option maxRecDepth 100000

theorem u8_small : ∀ n : Nat, n < 256 → IntKind.u8.wrap (n : Int) = (n : Int) := by decide
set_option maxHeartbeats 1600000 in
theorem resc_is (a : Option Addr) (n cap : Nat) (l : Bx) (w : World) (hr : Reads w a n (nb l)) (hcap : n ≤ cap) (hl : l.length ≤ 20000) :
    Calls Tryd.prog 29 #[.slice a n cap] w fun e w' => e = .returned (strB (escL l)) ∧ Below w.heap.size w w' := by
  have hn : n = l.length := by rw [← hr.1, nb_length]
  have HR := Lib.hid hr
  have HN := Lib.hid hn
  have hn20 : (n : Int) ≤ 20000 := by omega
  clear hr hn hl
  go_enter Tryd.func29, Tryd.ntmps29
  by_cases h0 : n = 0
  · have hL : Hid (l = []) := Lib.hid (List.length_eq_zero_iff.1 (by rw [← HN.out, h0]))
    have h00 : ((n : Int) == 0) = true := by rw [h0]; rfl
    clear h0
    go_wp2
    go_ret
    exact ⟨by rw [hL.out]; rfl, Below.refl _ _⟩
  · have h00 : ((n : Int) == 0) = false := by simpa using h0
    have HNE : Hid (l ≠ []) := Lib.hid (fun e => h0 (by rw [HN.out, e]; rfl))
    clear h0
    go_wp2
    go_loopw [3, 4] (fun v i wr => ∃ k : Nat, i = .int .i64 (k : Int) ∧ k ≤ n ∧ Hid (Owns w.heap.size wr v (nb (escF (l.take k)))) ∧ Hid (Below w.heap.size w wr)) (fun _ i _ => n - (intOf i).toNat)
    case atStart => exact ⟨0, rfl, Nat.zero_le _, Lib.hid (owns_nil _ _), Lib.hid (Below.refl _ _)⟩
    case round =>
      obtain ⟨k, rfl, hk, HO, HB⟩ := hrel
      by_cases hlt : k < n
      · have hlt2 : (k : Int) < (n : Int) := by omega
        obtain ⟨c, hc⟩ : ∃ c, l[k]? = some c := ⟨_, List.getElem?_eq_getElem (by rw [← HN.out]; exact hlt)⟩
        obtain ⟨b, off, rfl, hb, d0⟩ := reads_get HR.out hc
        have d1 := (HB.out.cell (p := ⟨b, off + k, none⟩) hb).trans d0
        have hcl := c.toNat_lt
        have HP := Lib.hid (rself_is c.toNat hcl wr)
        have hlen : (nb (escF (l.take k))).length ≤ 60000 := by
          rw [nb_length]
          have := (escF_length (l.take k)).2
          rw [List.length_take] at this
          have := HN.out
          omega
        have hsn := escF_snoc hc
        have HLE := Lib.hid hlen
        have CK : Hid (∀ W, Below w.heap.size w W → W.cell? ⟨b, off + k, none⟩ = some (.int .u8 (c.toNat : Int))) := Lib.hid (fun W hW => (hW.cell (p := ⟨b, off + k, none⟩) hb).trans d0)
        clear hc hb d0 hlen
        cases hs : selfN c.toNat
        · rw [hs] at HP
          have HST : Hid (nb (escF (l.take k)) ++ [37, digN (c.toNat / 16), digN (c.toNat % 16)] = nb (escF (l.take (k + 1)))) := Lib.hid (by rw [hsn, nb_append, nb_esc_no hs])
          have h4 : (c.toNat / 16) < 16 := by omega
          have h5 : (c.toNat % 16) < 16 := by omega
          clear hs hsn
          go_wp2_with fail
          refine HP.out.mono ?_
          rintro e w1 ⟨rfl, rfl⟩
          go_wp2
          have q1 : (c.toNat : Int).tmod 16 = ((c.toNat % 16 : Nat) : Int) := by rw [Int.tmod_eq_emod_of_nonneg (by omega)]; omega
          obtain ⟨lo, hlo⟩ : ∃ x, c.toNat % 16 = x := ⟨_, rfl⟩
          rw [hlo] at q1 h5 HST
          obtain ⟨hi, hhi⟩ : ∃ x, c.toNat / 16 = x := ⟨_, rfl⟩
          rw [hhi] at h4 HST
          have q2 : (c.toNat : Int) / 16 = (hi : Int) := by omega
          have Q3 := Lib.hid (fun W => rdigit_is lo h5 W)
          have Q4 := Lib.hid (fun W => rdigit_is hi h4 W)
          have d4 := dig_lt hi h4
          have d5 := dig_lt lo h5
          obtain ⟨D1, hD1⟩ : ∃ x, digN hi = x := ⟨_, rfl⟩
          obtain ⟨D2, hD2⟩ : ∃ x, digN lo = x := ⟨_, rfl⟩
          rw [hD1] at d4 HST Q4
          rw [hD2] at d5 HST Q3
          have qw1 : IntKind.u8.wrap (hi : Int) = (hi : Int) := u8_small hi (by omega)
          have qw2 : IntKind.u8.wrap (lo : Int) = (lo : Int) := u8_small lo (by omega)
          clear hlo hhi hD1 hD2 hcl
          have kx := below_next (below_drew w1) (below_box w1.drew (.cells #[.int .u8 37, .int .u8 (D1 : Int), .int .u8 (D2 : Int)] 5))
          have HRD : Hid (Reads (w1.drew.alloc (.cells #[.int .u8 37, .int .u8 (D1 : Int), .int .u8 (D2 : Int)] 5)) (some ⟨w1.heap.size, 0, none⟩) 3 [37, D1, D2]) := Lib.hid (reads_three w1.drew 37 D1 D2 (by decide) d4 d5)
          have HO2 := Lib.hid (HO.out.below kx)
          have HB2 := Lib.hid (below_next HB.out kx)
          have HLB : Hid ((nb (escF (l.take k))).length + 3 ≤ 100000) := Lib.hid (by have := HLE.out; omega)
          have kd := below_next HB.out (below_drew w1)
          have kb := HB2.out
          clear kx HO HB HP HR
          go_region_held3 (fun w' => w'.cell? ⟨b, off + k, none⟩ = some (.int .u8 (c.toNat : Int))) (first | exact d1 | exact CK.out _ (by assumption) | exact CK.out _ (below_next kd (below_box _ _)) | fail) ((first
            | (go_at_call_of 61 (Value.int IntKind.u8 (hi : Int)); refine (Q4.out _).mono ?_; rintro e W9 ⟨rfl, rfl⟩)
            | (go_at_call_of 61 (Value.int IntKind.u8 (lo : Int)); refine (Q3.out _).mono ?_; rintro e W9 ⟨rfl, rfl⟩)
            | (refine step_append_bytes (by rfl) _ _ (by rfl) w.heap.size u3 (nb (escF (l.take k))) (by rfl) HO2.out w1.heap.size 0 3 3 (by rfl) [37, D1, D2] HRD.out (by decide) HLB.out HB2.out.size ?_; intro v9 w9 o9 g9; have k9 := HB2.out.grown g9 HB2.out.size (fun j hj => HO2.out.lt j hj))
            | fail))
          all_goals
            have HB9 := Lib.hid (HB2.out.grown g9 HB2.out.size (fun j hj => HO2.out.lt j hj))
            have HO9 := Lib.hid o9
            clear o9 g9 HO2 HB2 kd kb k9
            try go_wp2
            first
            | (go_roundw
               case rel => exact ⟨k + 1, by go_num, by omega, by rw [← HST.out]; exact HO9, HB9⟩
               case measure => simp [intOf]; omega)
            | exact ⟨⟨k + 1, by go_num, by omega, by rw [← HST.out]; exact HO9, HB9⟩, by simp [intOf]; omega⟩
        · rw [hs] at HP
          have HST : Hid (nb (escF (l.take k)) ++ [c.toNat] = nb (escF (l.take (k + 1)))) := Lib.hid (by rw [hsn, nb_append, nb_esc_yes hs])
          clear hs hsn
          go_wp2_with fail
          refine HP.out.mono ?_
          rintro e w1 ⟨rfl, rfl⟩
          have kx := below_box w1 (.cells #[.int .u8 (c.toNat : Int)] 5)
          have HRD := Lib.hid (reads_one w1 c.toNat hcl)
          have HO2 := Lib.hid (HO.out.below kx)
          have HB2 := Lib.hid (below_next HB.out kx)
          clear kx HP HB HO
          go_wp2_with (at_builtin; refine wpList_append_bytes rfl _ _ rfl w.heap.size _ (nb (escF (l.take k))) rfl HO2.out (some ⟨w1.heap.size, 0, none⟩) 1 1 rfl [c.toNat] HRD.out (by have := HLE.out; omega) HB2.out.size ?_; intro v9 w9 o9 g9)
          have HB9 := Lib.hid (HB2.out.grown g9 HB2.out.size (fun j hj => HO2.out.lt j hj))
          have HO9 := Lib.hid o9
          clear o9 g9 HO2 HB2
          go_wp2
          go_roundw
          case rel => exact ⟨k + 1, by go_num, by omega, by rw [← HST.out]; exact HO9, HB9⟩
          case measure => simp [intOf]; omega
      · have hge : ¬ (k : Int) < (n : Int) := by omega
        obtain rfl : k = n := by omega
        have htk : l.take k = l := List.take_of_length_le (by rw [← HN.out]; exact Nat.le_refl _)
        rw [htk] at HO
        generalize u3 = v3 at *
        obtain ⟨a3, c3, rfl, hr3, _, _⟩ := HO.out.reads
        have HE : Hid (escL l = escF l) := Lib.hid (by unfold escL; rw [if_neg HNE.out])
        have e1 := run_strB c3 hr3
        clear hr3 htk
        go_wp2
        go_ret
        exact ⟨by rw [HE.out]; rfl, HB.out⟩
end Go.Proofs.YtebgejoemlgggaaDoor
