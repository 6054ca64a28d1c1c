/- '==' of two writes; slices.Equal of two caches. -/
import Derived.Test.YthainmbapikjiaaGebfjnpfg
namespace Go.Proofs.Ythainmbapikjiaa
open Go.ChangeShapes Go.WideShapes Go.ChangeAt Go.RowKit Go.Sort
set_option linter.unusedVariables false
set_option linter.unusedSimpArgs false
set_option maxRecDepth 100000

theorem run_agg_intW (w : World) : (isAgg 3).run Try.prog w = .ok false w := by kernel_rfl
theorem run_agg_secW (w : World) : (isAgg 106).run Try.prog w = .ok true w := by kernel_rfl
theorem run_size_secW (w : World) : (sizeOf 106).run Try.prog w = .ok 128 w := by kernel_rfl
theorem part_wr0 (n : Nat) (s : List Nat) (w : World) : (part 3 (wrV (n, s)).toArray 0).run Try.prog w = .ok (.int .i64 n) w := by
  unfold part
  simp only [Sem.run_bind, run_agg_intW, Result.andThen_ok]
  have h : (wrV (n, s)).toArray[0]? = some (.int .i64 (n : Int)) := by simp [wrV]
  rw [if_neg (by decide), h]
  rfl
theorem part_wr1 (n : Nat) (s : List Nat) (hs : s.length = 128) (w : World) : (part 106 (wrV (n, s)).toArray 1).run Try.prog w = .ok (.agg (cells s)) w := by
  unfold part
  simp only [Sem.run_bind, run_agg_secW, Result.andThen_ok, if_true, run_size_secW, Sem.run_pure]
  have h : (wrV (n, s)).toArray.extract 1 (1 + 128) = cells s := by
    rw [List.extract_toArray]
    unfold cells
    congr 1
    unfold List.extract wrV
    simp [hs]
    exact List.take_of_length_le (by simp [hs])
  rw [h]
theorem run_equalIn_intW (d : Nat) (x y : Int) (w : World) : (Op.equalIn (d + 1) 3 (.int .i64 x) (.int .i64 y)).run Try.prog w = .ok (x == y) w := by
  unfold Op.equalIn
  simp only [Sem.run_bind, run_underlying Try.underlying3, Result.andThen_ok]
  go_simp
theorem stood_wr : Try.prog.stoodInHeld 130 = false := by kernel_rfl
set_option maxHeartbeats 1600000 in
theorem run_equalIn_wr (d : Nat) (a b : Nat) (s t : List Nat) (hs : s.length = 128) (ht : t.length = 128) (w : World) :
    (Op.equalIn (d + 3) 130 (.agg (wrV (a, s)).toArray) (.agg (wrV (b, t)).toArray)).run Try.prog w = .ok (decide (a = b ∧ s = t)) w := by
  unfold Op.equalIn
  simp only [Sem.run_bind, run_underlying Try.underlying130, Result.andThen_ok]
  have hp : (Sem.run Try.prog program w) = .ok Try.prog w := rfl
  rw [hp]
  simp only [Result.andThen_ok, stood_wr, Bool.false_eq_true, if_false]
  have h0 : ∀ w, _ := part_wr0 a s
  have h1 : ∀ w, _ := part_wr0 b t
  have h2 : ∀ w, _ := part_wr1 a s hs
  have h3 : ∀ w, _ := part_wr1 b t ht
  have h4 := fun w => run_equalIn_intW (d + 1) (a : Int) (b : Int) w
  have h5 := fun w => run_equalIn_sector d s t hs ht w
  by_cases hab : a = b
  · subst hab
    simp [h0, h1, h2, h3, h4, h5]
    by_cases hst : s = t
    · simp [hst]
    · simp [hst]
  · have e : ((a : Int) == (b : Int)) = false := by simp; omega
    simp [h0, h1, h2, h3, h4, h5, e, hab]
theorem run_neq_wr (a b : Nat) (s t : List Nat) (hs : s.length = 128) (ht : t.length = 128) (w : World) : (binOp .neq 130 (.agg (wrV (a, s)).toArray) (.agg (wrV (b, t)).toArray)).run Try.prog w = .ok (.bool (!decide (a = b ∧ s = t))) w := by
  simp only [binOp]
  simp [Op.equal, Op.maxDepth, run_equalIn_wr 9997 a b s t hs ht w]
/-- A write, loaded at a step of a quiet region. -/
theorem quiet_load_wr {P : World → Prop} {o : Oper} {a : Act} {K : Act → Prop} (x : Operand) (ho : o.op = .load 130 x) (g off : Nat) (p : Nat × List Nat) (hx : a.eval x = .pointer (some ⟨g, off, none⟩)) (hl : p.2.length = 128)
    (hc : ∀ W, P W → W.rangeAt g off (wrV p)) (h : K (a.put o.dst (.agg (wrV p).toArray))) : o.quiet Try.prog a P K := by
  obtain ⟨d, hu, hd⟩ := row_write
  exact ⟨.agg (wrV p).toArray, fun W hW => by
    unfold Oper.quietAt execOp
    simp only [ho, hx]
    rw [Sem.run_bind, run_loadAt_mid W g off 130 (wrV p) d (hc W hW) hu hd (by rw [size_write, wrV_length hl])]
    exact ⟨rfl, rfl⟩, h⟩
theorem wrs_there {w : World} {a : Option Addr} {l : List (Nat × List Nat)} (hr : ReadsR w a 129 (rowsW l)) {k : Nat} {s : Nat × List Nat} (hs : l[k]? = some s) :
    ∃ b o, a = some ⟨b, o, none⟩ ∧ ∀ W', (∃ p : Regrown, W' = grow (redrawn w p.d) p.os) → W'.rangeAt b (o + k * 129) (wrV s) := by
  obtain ⟨b1, o1, e, hb, hc⟩ := hr.row (j := k) (r := wrV s) (by unfold rowsW; rw [List.getElem?_map, hs]; rfl)
  refine ⟨b1, o1, e, ?_⟩
  rintro _ ⟨p, rfl⟩ j v hv
  have := hc j v hv
  rw [← Nat.add_assoc] at this
  exact cell_regrown this p.d p.os
set_option maxHeartbeats 1600000 in
theorem equal_wr (a a' : Option Addr) (c c' N : Nat) (l m : List (Nat × List Nat)) (hl : ∀ s ∈ l, s.2.length = 128) (hm : ∀ s ∈ m, s.2.length = 128) (hN : l.length = N) (hM : m.length = N) (hN6 : N ≤ 1000000) (w : World)
    (hr : ReadsR w a 129 (rowsW l)) (hr' : ReadsR w a' 129 (rowsW m)) :
    Calls Try.prog 66 #[.slice a N c, .slice a' N c'] w fun e w' => e = .returned (.bool (decide (l = m))) ∧ Below w.heap.size w w' := by
  have HL := Lib.hid hl
  have HM := Lib.hid hm
  have HLN := Lib.hid hN
  have HMN := Lib.hid hM
  have HR := Lib.hid hr
  have HR' := Lib.hid hr'
  clear hl hm hN hM hr hr'
  obtain ⟨res, hres⟩ : ∃ r, decide (l = m) = r := ⟨_, rfl⟩
  rw [hres]
  have HRES := Lib.hid hres
  clear hres
  go_enter Try.func66, Try.ntmps66
  go_wp2_with fail
  go_loopw [13] (fun i wr => ∃ k : Nat, k ≤ N ∧ i = .int .i64 (k : Int) ∧ Hid (Below w.heap.size w wr) ∧ Hid (l.take k = m.take k)) (fun i _ => N - (intOf i).toNat)
  case atStart => exact ⟨0, Nat.zero_le _, rfl, Lib.hid (Below.refl _ _), Lib.hid rfl⟩
  case round =>
    obtain ⟨k, hk, rfl, HB, HT⟩ := hrel
    by_cases hlt : k < N
    · obtain ⟨s, hs⟩ : ∃ s, l[k]? = some s := ⟨_, List.getElem?_eq_getElem (by rw [HLN.out]; exact hlt)⟩
      obtain ⟨t, ht⟩ : ∃ s, m[k]? = some s := ⟨_, List.getElem?_eq_getElem (by rw [HMN.out]; exact hlt)⟩
      have hs8 := HL.out s (List.mem_of_getElem? hs)
      have ht8 := HM.out t (List.mem_of_getElem? ht)
      obtain ⟨b, o, rfl, hrs⟩ := wrs_there (HR.out.below HB.out) hs
      obtain ⟨b', o', rfl, hrt⟩ := wrs_there (HR'.out.below HB.out) ht
      have HRS := Lib.hid hrs
      have HRT := Lib.hid hrt
      clear hrs hrt
      have hneq := run_neq_wr s.1 t.1 s.2 t.2 hs8 ht8
      have hst : (s.1 = t.1 ∧ s.2 = t.2) ↔ s = t := ⟨fun h => Prod.ext h.1 h.2, fun h => by rw [h]; exact ⟨rfl, rfl⟩⟩
      rw [show decide (s.1 = t.1 ∧ s.2 = t.2) = decide (s = t) from by simp only [hst]] at hneq
      clear hst
      have HS := Lib.hid hs
      have HT2 := Lib.hid ht
      have HS8 := Lib.hid hs8
      have HT8 := Lib.hid ht8
      have hx0 : (0 : Int) ≤ (k : Int) := by omega
      have hx1 : (k : Int) < (N : Int) := by omega
      have HLT := Lib.hid hlt
      clear hs ht hs8 ht8 hlt
      by_cases he : s = t
      · have hD : decide (s = t) = true := decide_eq_true he
        have HE := Lib.hid he
        simp only [hD, Bool.not_true] at hneq
        clear he hD
        go_wp2_with fail
        refine wp_region_quiet_below (by kernel_rfl) (by kernel_rfl) ?_
        repeat (first
          | (go_big_quiet_want; (refine quiet_load_wr _ rfl b (o + k * 129) s rfl HS8.out HRS.out ?_); go_simp; go_big_quiet_on)
          | (go_big_quiet_want; (refine quiet_load_wr _ rfl b' (o' + k * 129) t rfl HT8.out HRT.out ?_); go_simp; go_big_quiet_on)
          | go_big_quiet_step (fail))
        refine wpQuiet_nil (regrown_name fun w3 b3 => ?_)
        have B3 := Lib.hid (below_next HB.out b3)
        have HK3 : Hid (l.take (k + 1) = m.take (k + 1)) := Lib.hid (by rw [List.take_add_one, List.take_add_one, HS.out, HT2.out, HT.out, HE.out])
        clear b3
        go_wp2
        have h1 := HLT.out
        go_roundw
        case rel => exact ⟨k + 1, HLT.out, by go_num, B3, HK3⟩
        case measure => simp [intOf]; omega
      · have hD : decide (s = t) = false := decide_eq_false he
        have HE := Lib.hid he
        simp only [hD, Bool.not_false] at hneq
        clear he hD
        go_wp2_with fail
        refine wp_region_quiet_below (by kernel_rfl) (by kernel_rfl) ?_
        repeat (first
          | (go_big_quiet_want; (refine quiet_load_wr _ rfl b (o + k * 129) s rfl HS8.out HRS.out ?_); go_simp; go_big_quiet_on)
          | (go_big_quiet_want; (refine quiet_load_wr _ rfl b' (o' + k * 129) t rfl HT8.out HRT.out ?_); go_simp; go_big_quiet_on)
          | go_big_quiet_step (fail))
        refine wpQuiet_nil (regrown_name fun w3 b3 => ?_)
        have B3 := Lib.hid (below_next HB.out b3)
        have hf : res = false := by
          rw [← HRES.out]
          refine decide_eq_false (fun e => HE.out ?_)
          have h1 := HS.out
          rw [e, HT2.out] at h1
          exact (Option.some.inj h1).symm
        clear b3
        go_wp2
        go_ret
        first | exact ⟨ret_bool hf.symm, B3.out⟩ | exact ⟨rfl, B3.out⟩
    · obtain rfl : k = N := by omega
      have hx1 : ¬ (k : Int) < (k : Int) := by omega
      have hf : res = true := by
        rw [← HRES.out]
        refine decide_eq_true ?_
        have h1 := HT.out
        rw [List.take_of_length_le (by rw [HLN.out]; exact Nat.le_refl _), List.take_of_length_le (by rw [HMN.out]; exact Nat.le_refl _)] at h1
        exact h1
      clear hlt
      go_wp2
      go_ret
      first | exact ⟨ret_bool hf.symm, HB.out⟩ | exact ⟨rfl, HB.out⟩
end Go.Proofs.Ythainmbapikjiaa
