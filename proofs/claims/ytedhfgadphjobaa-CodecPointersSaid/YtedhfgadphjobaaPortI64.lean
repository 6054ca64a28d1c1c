/- part.Num at one kind of numbers: int. -/
import Derived.Test.YtedhfgadphjobaaPort
namespace Go.Proofs.Ytedhfgadphjobaa
open Go.RowKit Go.Sort
set_option linter.unusedVariables false
set_option linter.unusedSimpArgs false
set_option maxRecDepth 100000

def u64of (z : Int) : Nat := (z % 18446744073709551616).toNat
theorem u64of_is (z : Int) : IntKind.u64.wrap z = (u64of z : Int) := by
  unfold u64of
  simp only [IntKind.wrap, IntKind.bits, IntKind.signed]
  simp
  omega
theorem u64of_lt (z : Int) : u64of z < 18446744073709551616 := by unfold u64of; omega
theorem u64of_back {z : Int} (h : I64 z) : IntKind.i64.wrap (u64of z : Int) = z := by
  unfold u64of
  unfold I64 at h
  simp only [IntKind.wrap, IntKind.bits, IntKind.signed]
  simp
  omega
theorem i64_small {z : Nat} (h : z < 9223372036854775808) : IntKind.i64.wrap (z : Int) = z := by
  simp only [IntKind.wrap, IntKind.bits, IntKind.signed]
  simp
  omega
/-- The integer that comes out. -/
def PS.numI (S : PS) (q : Nat) (z : Int) : Int := match S with
  | .wr _ _ => z
  | .rd b => (PS.num (.rd b) q 0 : Nat)

set_option maxHeartbeats 1600000 in
theorem pnum_i64 {gx off : Nat} {w : World} {pv : Value} {S : PS} {z : Int} {cs : Array Value} {t : TypeId} (h : IsPort w pv S) (hx : w.heap[gx]? = some (.cells cs t (0, 0))) (hax : Away w pv S gx) (q : Nat) (hq : 1 ≤ q) (hq8 : q ≤ 4) (hf : S.fits q) (hc : cs[off]? = some (.int .i64 z)) (hz : I64 z) :
    Calls Try.prog 119 #[pv, .int .i64 q, .pointer (some ⟨gx, off, none⟩)] w fun e w' => e = .returned (.tuple #[]) ∧ w'.heap[gx]? = some (.cells (cs.setIfInBounds off (.int .i64 (S.numI q z))) t (0, 0)) ∧ Passed gx w pv S w' (S.next q (u64of z)) := by
  have hgl : gx < w.heap.size := (Array.getElem?_eq_some_iff.1 hx).1
  have c1 : w.drew.cell? ⟨gx, off, none⟩ = some (.int .i64 z) := (cell_of_row hx off).trans hc
  have HX := Lib.hid hx
  have HAX := Lib.hid hax
  have hw64 := u64of_is z
  have hk := u64of_back hz
  have hn := u64of_lt z
  obtain ⟨n, hnz⟩ : ∃ n, u64of z = n := ⟨_, rfl⟩
  rw [hnz] at hw64 hk hn ⊢
  cases S with
  | wr l f =>
    obtain ⟨g, v, rfl, hw⟩ := h
    have HW := Lib.hid hw
    have HF := Lib.hid hf
    have hna := fun n hn w => na_wr n g w hn
    have hmt := fun n hn w => mt_wr n g w hn
    obtain ⟨xg, xv⟩ := (away_wr hw).1 hax
    clear hw hf hc hax hx
    go_enter Try.func119, Try.ntmps119
    go_wp2_with fail
    refine wp_any_post2 (fun a' w' => ∃ w1, PKeeps g v w.drew w1 ∧ (∃ v' l' f', PS.next (.wr l f) q n = .wr l' f' ∧ IsWr w1 g v' l' f' ∧ (∀ k, v'.ownBlock = some k → v.ownBlock = some k ∨ w.drew.heap.size ≤ k)) ∧ w' = w1.setCell ⟨gx, off, none⟩ (.int .i64 z) ∧ a'.defers = []) (fun Q hQ => ?_) ?_
    · go_region_with (go_at_call 159; refine (wnum_is (w := w.drew) HW.out q n hq (by omega) (by omega) HF.out).mono ?_; rintro e w1 ⟨rfl, b1, HV⟩; have r2 := (b1.block gx hgl xg xv).trans HX.out; have c2 := ((cell_of_row r2 off).trans ((cell_of_row HX.out off).symm.trans c1)); have f2 := frozen_of_row w1 gx off _ _ r2; have HV' := Lib.hid (And.intro b1 HV); clear HV b1 r2)
      all_goals exact NoPanic.normal (hQ _ _ ⟨_, HV'.out.1, HV'.out.2, rfl, rfl⟩)
    · rintro a' w' ⟨w1, b1, HV, rfl, hd⟩
      have r2 := (b1.block gx hgl xg xv).trans HX.out
      refine bodyPost_end (results_none rfl _ _ _) hd ?_
      exact ⟨rfl, row_stored r2, passed_wr HW.out hgl HAX.out ⟨b1.os, b1.tape, b1.output, b1.size, b1.block⟩ HV⟩
  | rd b =>
    obtain ⟨g, a, cap, rfl, hw⟩ := h
    have HW := Lib.hid hw
    have hna := fun n hn w => na_rd n g w hn
    have hmt := fun n hn w => mt_rd n g w hn
    obtain ⟨xg, xv⟩ := (away_rd hw).1 hax
    have hlt : PS.num (.rd b) q n < 4294967296 := Nat.lt_of_lt_of_le (num_lt hw.2.1.2.1 q n (by omega)) (Nat.le_trans (Nat.pow_le_pow_right (by omega) hq8) (by decide))
    have hnI : PS.numI (.rd b) q z = (PS.num (.rd b) q n : Nat) := rfl
    rw [hnI]
    obtain ⟨r, hr⟩ : ∃ r, PS.num (.rd b) q n = r := ⟨_, rfl⟩
    rw [hr] at hlt
    have HR := Lib.hid hr
    have hkr := i64_small (z := r) (by omega)
    clear hw hc hax hx hf hr
    rw [HR.out]
    go_enter Try.func119, Try.ntmps119
    go_wp2_with fail
    refine wp_any_post2 (fun a' w' => ∃ w1, PKeeps g (.slice none 0 0) w.drew w1 ∧ (∃ a' cap' b', PS.next (.rd b) q n = .rd b' ∧ IsRd w1 g a' cap' b' ∧ (b' ≠ [] → ∀ x, a' = some x → ∃ y, a = some y ∧ y.block = x.block ∧ b ≠ [])) ∧ w' = w1.setCell ⟨gx, off, none⟩ (.int .i64 r) ∧ a'.defers = []) (fun Q hQ => ?_) ?_
    · go_region_with (go_at_call 161; refine (rnum_is (w := w.drew) HW.out q n hq (by omega) (by omega)).mono ?_; rintro e w1 ⟨rfl, b1, HV⟩; rw [HR.out]; have r2 := (b1.block gx hgl xg (by intro e; cases e)).trans HX.out; have c2 := ((cell_of_row r2 off).trans ((cell_of_row HX.out off).symm.trans c1)); have f2 := frozen_of_row w1 gx off _ _ r2; have HV' := Lib.hid (And.intro b1 HV); clear HV b1 r2)
      all_goals exact NoPanic.normal (hQ _ _ ⟨_, HV'.out.1, HV'.out.2, rfl, rfl⟩)
    · rintro a' w' ⟨w1, b1, HV, rfl, hd⟩
      have r2 := (b1.block gx hgl xg (by intro e; cases e)).trans HX.out
      refine bodyPost_end (results_none rfl _ _ _) hd ?_
      exact ⟨rfl, row_stored r2, passed_rd HW.out hgl HAX.out ⟨b1.os, b1.tape, b1.output, b1.size, b1.block⟩ HV⟩
end Go.Proofs.Ytedhfgadphjobaa
