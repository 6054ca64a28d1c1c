/- part.Num at one kind of numbers: byte. -/
import Derived.Test.YtgakidimipipeaaGreatGgndplpbm
namespace Go.Proofs.YtgakidimipipeaaGreat
open Go.RowKit Go.Sort
set_option linter.unusedVariables false
set_option linter.unusedSimpArgs false
set_option maxRecDepth 100000

set_option maxHeartbeats 1600000 in
theorem pnum_u8 {gx off : Nat} {w : World} {pv : Value} {S : PS} {z : Nat} {cs : Array Value} {t : TypeId} (h : IsPort w pv S) (hx : w.heap[gx]? = some (.cells cs t (0, 0))) (hax : Away w pv S gx) (q : Nat) (hq : 1 ≤ q) (hq8 : q ≤ 1) (hf : S.fits q) (hc : cs[off]? = some (.int .u8 z)) (hz : z < 256) :
    Calls Tryz.prog 105 #[pv, .int .i64 q, .pointer (some ⟨gx, off, none⟩)] w fun e w' => e = .returned (.tuple #[]) ∧ w'.heap[gx]? = some (.cells (cs.setIfInBounds off (.int .u8 (S.num q z : Nat))) t (0, 0)) ∧ Passed gx w pv S w' (S.next q z) := by
  have hgl : gx < w.heap.size := (Array.getElem?_eq_some_iff.1 hx).1
  have c1 : w.drew.cell? ⟨gx, off, none⟩ = some (.int .u8 z) := (cell_of_row hx off).trans hc
  have HX := Lib.hid hx
  have HAX := Lib.hid hax
  have hw64 := u64_small (z := z) (by omega)
  have hk := u8_small hz
  cases S with
  | wr l f =>
    obtain ⟨g, v, rfl, hw⟩ := h
    have HW := Lib.hid hw
    have HF := Lib.hid hf
    have hna := fun n hn w => na_wr n g w hn
    have hmt := fun n hn w => mt_wr n g w hn
    obtain ⟨xg, xv⟩ := (away_wr hw).1 hax
    clear hw hf hc hax hx
    go_enter Tryz.func105, Tryz.ntmps105
    go_wp2_with fail
    refine wp_any_post2 (fun a' w' => ∃ w1, PKeeps g v w.drew w1 ∧ (∃ v' l' f', PS.next (.wr l f) q z = .wr l' f' ∧ IsWr w1 g v' l' f' ∧ (∀ k, v'.ownBlock = some k → v.ownBlock = some k ∨ w.drew.heap.size ≤ k)) ∧ w' = w1.setCell ⟨gx, off, none⟩ (.int .u8 z) ∧ a'.defers = []) (fun Q hQ => ?_) ?_
    · go_region_with (go_at_call 142; refine (wnum_is (w := w.drew) HW.out q z hq (by omega) (by omega) HF.out).mono ?_; rintro e w1 ⟨rfl, b1, HV⟩; have r2 := (b1.block gx hgl xg xv).trans HX.out; have c2 := ((cell_of_row r2 off).trans ((cell_of_row HX.out off).symm.trans c1)); have f2 := frozen_of_row w1 gx off _ _ r2; have HV' := Lib.hid (And.intro b1 HV); clear HV b1 r2)
      all_goals exact NoPanic.normal (hQ _ _ ⟨_, HV'.out.1, HV'.out.2, rfl, rfl⟩)
    · rintro a' w' ⟨w1, b1, HV, rfl, hd⟩
      have r2 := (b1.block gx hgl xg xv).trans HX.out
      refine bodyPost_end (results_none rfl _ _ _) hd ?_
      exact ⟨rfl, row_stored r2, passed_wr HW.out hgl HAX.out ⟨b1.os, b1.tape, b1.output, b1.size, b1.block⟩ HV⟩
  | rd b =>
    obtain ⟨g, a, cap, rfl, hw⟩ := h
    have HW := Lib.hid hw
    have hna := fun n hn w => na_rd n g w hn
    have hmt := fun n hn w => mt_rd n g w hn
    obtain ⟨xg, xv⟩ := (away_rd hw).1 hax
    have hlt : PS.num (.rd b) q z < 256 := Nat.lt_of_lt_of_le (num_lt hw.2.1.2.1 q z (by omega)) (Nat.le_trans (Nat.pow_le_pow_right (by omega) hq8) (by decide))
    obtain ⟨r, hr⟩ : ∃ r, PS.num (.rd b) q z = r := ⟨_, rfl⟩
    rw [hr] at hlt
    have HR := Lib.hid hr
    have hkr := u8_small hlt
    clear hw hc hax hx hf hr
    rw [HR.out]
    go_enter Tryz.func105, Tryz.ntmps105
    go_wp2_with fail
    refine wp_any_post2 (fun a' w' => ∃ w1, PKeeps g (.slice none 0 0) w.drew w1 ∧ (∃ a' cap' b', PS.next (.rd b) q z = .rd b' ∧ IsRd w1 g a' cap' b' ∧ (b' ≠ [] → ∀ x, a' = some x → ∃ y, a = some y ∧ y.block = x.block ∧ b ≠ [])) ∧ w' = w1.setCell ⟨gx, off, none⟩ (.int .u8 r) ∧ a'.defers = []) (fun Q hQ => ?_) ?_
    · go_region_with (go_at_call 144; refine (rnum_is (w := w.drew) HW.out q z hq (by omega) (by omega)).mono ?_; rintro e w1 ⟨rfl, b1, HV⟩; rw [HR.out]; have r2 := (b1.block gx hgl xg (by intro e; cases e)).trans HX.out; have c2 := ((cell_of_row r2 off).trans ((cell_of_row HX.out off).symm.trans c1)); have f2 := frozen_of_row w1 gx off _ _ r2; have HV' := Lib.hid (And.intro b1 HV); clear HV b1 r2)
      all_goals exact NoPanic.normal (hQ _ _ ⟨_, HV'.out.1, HV'.out.2, rfl, rfl⟩)
    · rintro a' w' ⟨w1, b1, HV, rfl, hd⟩
      have r2 := (b1.block gx hgl xg (by intro e; cases e)).trans HX.out
      refine bodyPost_end (results_none rfl _ _ _) hd ?_
      exact ⟨rfl, row_stored r2, passed_rd HW.out hgl HAX.out ⟨b1.os, b1.tape, b1.output, b1.size, b1.block⟩ HV⟩
end Go.Proofs.YtgakidimipipeaaGreat
