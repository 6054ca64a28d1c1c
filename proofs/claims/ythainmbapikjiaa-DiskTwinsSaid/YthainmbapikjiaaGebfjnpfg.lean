/- slices.Equal of two disks' sectors, by its walk. -/
import Derived.Test.YthainmbapikjiaaGjmbjdmjp
import Derived.Lib.QuietBelow
import Derived.BigQuiet
namespace Go.Proofs.Ythainmbapikjiaa
open Go.ChangeShapes Go.WideShapes Go.ChangeAt Go.RowKit Go.Sort
set_option linter.unusedVariables false
set_option linter.unusedSimpArgs false
set_option maxRecDepth 100000

/-- A sector, loaded at a step of a quiet region. -/
theorem quiet_load_sec {P : World → Prop} {o : Oper} {a : Act} {K : Act → Prop} (x : Operand) (ho : o.op = .load 106 x) (g off : Nat) (l : List Nat) (hx : a.eval x = .pointer (some ⟨g, off, none⟩)) (hl : l.length = 128)
    (hc : ∀ W, P W → W.rangeAt g off (l.map byteV)) (h : K (a.put o.dst (.agg (cells l)))) : o.quiet Try.prog a P K :=
  ⟨.agg (cells l), fun W hW => by
    unfold Oper.quietAt execOp
    simp only [ho, hx]
    rw [Sem.run_bind, run_loadAt_mid W g off 106 (l.map byteV) _ (hc W hW) row_sector rfl (by rw [size_sector, List.length_map, hl])]
    exact ⟨rfl, rfl⟩, h⟩
theorem secs_there {w : World} {b o : Nat} {l : List (List Nat)} (hr : ReadsR w (some ⟨b, o, none⟩) 128 (secR l)) {k : Nat} {s : List Nat} (hs : l[k]? = some s) :
    ∀ W', (∃ p : Regrown, W' = grow (redrawn w p.d) p.os) → W'.rangeAt b (o + k * 128) (s.map byteV) := by
  rintro _ ⟨p, rfl⟩ j v hv
  obtain ⟨b1, o1, e, hb, hc⟩ := hr.row (j := k) (r := s.map byteV) (by unfold secR; rw [List.getElem?_map, hs]; rfl)
  cases e
  have := hc j v hv
  rw [← Nat.add_assoc] at this
  exact cell_regrown this p.d p.os
set_option maxHeartbeats 1600000 in
theorem equal_secs (b o c b' o' c' N : Nat) (l m : List (List Nat)) (hl : ∀ s ∈ l, s.length = 128) (hm : ∀ s ∈ m, s.length = 128) (hN : l.length = N) (hM : m.length = N) (hN6 : N ≤ 65536) (w : World)
    (hr : ReadsR w (some ⟨b, o, none⟩) 128 (secR l)) (hr' : ReadsR w (some ⟨b', o', none⟩) 128 (secR m)) :
    Calls Try.prog 67 #[.slice (some ⟨b, o, none⟩) N c, .slice (some ⟨b', o', none⟩) N c'] w fun e w' => e = .returned (.bool (decide (l = m))) ∧ Below w.heap.size w w' := by
  have HL := Lib.hid hl
  have HM := Lib.hid hm
  have HLN := Lib.hid hN
  have HMN := Lib.hid hM
  have HR := Lib.hid hr
  have HR' := Lib.hid hr'
  clear hl hm hN hM hr hr'
  obtain ⟨res, hres⟩ : ∃ r, decide (l = m) = r := ⟨_, rfl⟩
  rw [hres]
  have HRES := Lib.hid hres
  clear hres
  go_enter Try.func67, Try.ntmps67
  go_wp2_with fail
  go_loopw [13] (fun i wr => ∃ k : Nat, k ≤ N ∧ i = .int .i64 (k : Int) ∧ Hid (Below w.heap.size w wr) ∧ Hid (l.take k = m.take k)) (fun i _ => N - (intOf i).toNat)
  case atStart => exact ⟨0, Nat.zero_le _, rfl, Lib.hid (Below.refl _ _), Lib.hid rfl⟩
  case round =>
    obtain ⟨k, hk, rfl, HB, HT⟩ := hrel
    by_cases hlt : k < N
    · obtain ⟨s, hs⟩ : ∃ s, l[k]? = some s := ⟨_, List.getElem?_eq_getElem (by rw [HLN.out]; exact hlt)⟩
      obtain ⟨t, ht⟩ : ∃ s, m[k]? = some s := ⟨_, List.getElem?_eq_getElem (by rw [HMN.out]; exact hlt)⟩
      have hs8 := HL.out s (List.mem_of_getElem? hs)
      have ht8 := HM.out t (List.mem_of_getElem? ht)
      have HRS := Lib.hid (secs_there (HR.out.below HB.out) hs)
      have HRT := Lib.hid (secs_there (HR'.out.below HB.out) ht)
      have hneq := run_neq_sector s t hs8 ht8
      have HS := Lib.hid hs
      have HT2 := Lib.hid ht
      have HS8 := Lib.hid hs8
      have HT8 := Lib.hid ht8
      have hx0 : (0 : Int) ≤ (k : Int) := by omega
      have hx1 : (k : Int) < (N : Int) := by omega
      have HLT := Lib.hid hlt
      clear hs ht hs8 ht8 hlt
      by_cases he : s = t
      · have hD : decide (s = t) = true := decide_eq_true he
        have HE := Lib.hid he
        simp only [hD, Bool.not_true] at hneq
        clear he hD
        go_wp2_with fail
        refine wp_region_quiet_below (by kernel_rfl) (by kernel_rfl) ?_
        repeat (first
          | (go_big_quiet_want; (refine quiet_load_sec _ rfl b (o + k * 128) s rfl HS8.out HRS.out ?_); go_simp; go_big_quiet_on)
          | (go_big_quiet_want; (refine quiet_load_sec _ rfl b' (o' + k * 128) t rfl HT8.out HRT.out ?_); go_simp; go_big_quiet_on)
          | go_big_quiet_step (fail))
        refine wpQuiet_nil (regrown_name fun w3 b3 => ?_)
        have B3 := Lib.hid (below_next HB.out b3)
        have HK3 : Hid (l.take (k + 1) = m.take (k + 1)) := Lib.hid (by rw [List.take_add_one, List.take_add_one, HS.out, HT2.out, HT.out, HE.out])
        clear b3
        go_wp2
        have h1 := HLT.out
        go_roundw
        case rel => exact ⟨k + 1, HLT.out, by go_num, B3, HK3⟩
        case measure => simp [intOf]; omega
      · have hD : decide (s = t) = false := decide_eq_false he
        have HE := Lib.hid he
        simp only [hD, Bool.not_false] at hneq
        clear he hD
        go_wp2_with fail
        refine wp_region_quiet_below (by kernel_rfl) (by kernel_rfl) ?_
        repeat (first
          | (go_big_quiet_want; (refine quiet_load_sec _ rfl b (o + k * 128) s rfl HS8.out HRS.out ?_); go_simp; go_big_quiet_on)
          | (go_big_quiet_want; (refine quiet_load_sec _ rfl b' (o' + k * 128) t rfl HT8.out HRT.out ?_); go_simp; go_big_quiet_on)
          | go_big_quiet_step (fail))
        refine wpQuiet_nil (regrown_name fun w3 b3 => ?_)
        have B3 := Lib.hid (below_next HB.out b3)
        have hf : res = false := by
          rw [← HRES.out]
          refine decide_eq_false (fun e => HE.out ?_)
          have h1 := HS.out
          rw [e, HT2.out] at h1
          exact (Option.some.inj h1).symm
        clear b3
        go_wp2
        go_ret
        first | exact ⟨ret_bool hf.symm, B3.out⟩ | exact ⟨rfl, B3.out⟩
    · obtain rfl : k = N := by omega
      have hx1 : ¬ (k : Int) < (k : Int) := by omega
      have hf : res = true := by
        rw [← HRES.out]
        refine decide_eq_true ?_
        have h1 := HT.out
        rw [List.take_of_length_le (by rw [HLN.out]; exact Nat.le_refl _), List.take_of_length_le (by rw [HMN.out]; exact Nat.le_refl _)] at h1
        exact h1
      clear hlt
      go_wp2
      go_ret
      first | exact ⟨ret_bool hf.symm, HB.out⟩ | exact ⟨rfl, HB.out⟩
end Go.Proofs.Ythainmbapikjiaa
