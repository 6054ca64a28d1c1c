/- The law UsageParts is true for every input: what part of a room is live is told as the numbers have it, at their edges too. No condition. -/
import Derived.Test.YtnlbjpnhepdicaaAwake9
import Derived.Test.YtnlbjpnhepdicaaFloatMath
import Derived.Test.YtnlbjpnhepdicaaOpen
import Derived.WalkLawsBesides
namespace Go.Proofs.Ytnlbjpnhepdicaa
open Go.ChangeShapes Go.WideShapes Go.ChangeAt Go.RowKit Go.Sort
set_option linter.unusedVariables false
set_option linter.unusedSimpArgs false
set_option maxRecDepth 100000

def nanOf (t : Nat) : Nat := (t % 2) * 2 ^ 63 + 0x7ff0000000000000 + 1 + (t / 2) % (2 ^ 52 - 1)
theorem nanOf_nan (t : Nat) : nanB (nanOf t) = true := by
  have e1 : Ieee.double.binade = 4503599627370496 := rfl
  have e2 : Ieee.double.infRung = 9218868437227405312 := rfl
  have e3 : Ieee.double.signWeight = 9223372036854775808 := rfl
  have hr : nanOf t % 9223372036854775808 = 9218868437227405313 + (t / 2) % 4503599627370495 := by
    unfold nanOf
    have h1 : (t / 2) % 4503599627370495 < 4503599627370495 := Nat.mod_lt _ (by decide)
    have h2 : t % 2 = 0 ∨ t % 2 = 1 := by omega
    show (t % 2 * 9223372036854775808 + 9218868437227405312 + 1 + t / 2 % 4503599627370495) % 9223372036854775808 = _
    generalize t / 2 % 4503599627370495 = r at *
    rcases h2 with h2 | h2 <;> rw [h2] <;> omega
  unfold nanB Ieee.Format.read
  simp only
  rw [e3, hr, e1, e2]
  generalize (t / 2) % 4503599627370495 = r
  rw [if_neg (by omega), if_neg (by omega), if_neg (by omega)]
  rfl
theorem run_quo_nan (w : World) (x y : Nat) (h : Ieee.double.div x y = none) : ∃ b, (binOp .quo 79 (.float .f64 x) (.float .f64 y)).run Try.prog w = .ok (.float .f64 b) w.drew ∧ nanB b = true := by
  refine ⟨nanOf (w.tape w.drawn (.nanBits .f64 x y)), ?_, nanOf_nan _⟩
  have h' : FloatKind.f64.format.div x y = none := h
  simp [binOp, Op.floatArith, h', run_choose_drew, Question.forced, Question.cut, nanOf]
theorem part_num (live room : Int) (r : Nat) (w : World) (h : Ieee.double.div (floatOfInt .f64 live) (floatOfInt .f64 room) = some r) :
    Calls Try.prog 38 #[.int .i64 live, .int .i64 room] w fun e w' => e = .returned (.float .f64 r) ∧ w = w' := by
  have hrun := fun W => run_float_arith (P := Try.prog) W .quo 79 .f64 _ _ r h
  clear h
  go_enter Try.func38, Try.ntmps38
  go_wp2
  go_ret
  exact ⟨rfl, rfl⟩
theorem part_nan (live room : Int) (w : World) (h : Ieee.double.div (floatOfInt .f64 live) (floatOfInt .f64 room) = none) :
    Calls Try.prog 38 #[.int .i64 live, .int .i64 room] w fun e w' => (∃ b, e = .returned (.float .f64 b) ∧ nanB b = true) ∧ w.drew = w' := by
  obtain ⟨b, hrun, hb⟩ := run_quo_nan w _ _ h
  have HB := Lib.hid hb
  clear h hb
  go_enter Try.func38, Try.ntmps38
  go_wp2
  go_ret
  exact ⟨⟨b, rfl, HB.out⟩, rfl⟩
def capI (x : Int) : Int := max (-1125899906842624) (min x 1125899906842624)
theorem capI_bound (x : Int) : -1125899906842624 ≤ capI x ∧ capI x ≤ 1125899906842624 := by unfold capI; omega
theorem inf_great : (FloatKind.f64.format.order (Ieee.double.word false Ieee.double.infRung) 9094988921128908188 == some .gt) = true := by decide +kernel
theorem inf_less : (FloatKind.f64.format.order (Ieee.double.word true Ieee.double.infRung) 18318360957983683996 == some .lt) = true := by decide +kernel
set_option maxHeartbeats 1600000 in
theorem usageParts_walk (live room : Int) (w : World) : Calls Try.prog 9 #[.int .i64 live, .int .i64 room] w fun e w' => e = .returned (.bool true) ∧ Below w.heap.size w w' := by
  have b1 := capI_bound live
  have b2 := capI_bound room
  have e1 : max (-1125899906842624) (min live 1125899906842624) = capI live := rfl
  have e2 : max (-1125899906842624) (min room 1125899906842624) = capI room := rfl
  generalize capI live = L at *
  generalize capI room = R at *
  by_cases hR : R = 0
  · subst hR
    have ht : ((0 : Int) != 0) = false := rfl
    by_cases hL : L = 0
    · subst hL
      have HQ := Lib.hid quo_none
      go_enter Try.func9, Try.ntmps9
      go_wp2_with fail
      refine (awake9_true w).mono ?_
      rintro e w1 ⟨rfl, b1⟩
      have B1 := Lib.hid b1
      clear b1
      go_wp2_with fail
      refine (part_nan 0 0 w1 HQ.out).mono ?_
      rintro e w2 ⟨⟨b, rfl, hb⟩, rfl⟩
      have hne : (FloatKind.f64.format.order b b != some .eq) = true := by
        show (Ieee.double.order b b != some .eq) = true
        rw [order_nan b hb]; rfl
      clear hb
      go_wp2
      go_ret
      exact ⟨rfl, B1.out.trans ((below_drew _).mono B1.out.size)⟩
    · have HQ := Lib.hid (quo_inf hL b1.1 b1.2)
      have hl0 : (L == 0) = false := by simpa using hL
      by_cases hp : 0 < L
      · have HD : Hid (decide (L < 0) = false) := by show _ = _; simp; omega
        have hgr := inf_great
        go_enter Try.func9, Try.ntmps9
        go_wp2_with fail
        refine (awake9_true w).mono ?_
        rintro e w1 ⟨rfl, b1⟩
        have B1 := Lib.hid b1
        clear b1
        go_wp2_with fail
        refine (part_num L 0 _ w1 HQ.out).mono ?_
        rintro e w2 ⟨rfl, rfl⟩
        rw [HD.out]
        go_wp2
        go_ret
        exact ⟨rfl, B1.out⟩
      · have HD : Hid (decide (L < 0) = true) := by show _ = _; simp; omega
        have hgr := inf_less
        go_enter Try.func9, Try.ntmps9
        go_wp2_with fail
        refine (awake9_true w).mono ?_
        rintro e w1 ⟨rfl, b1⟩
        have B1 := Lib.hid b1
        clear b1
        go_wp2_with fail
        refine (part_num L 0 _ w1 HQ.out).mono ?_
        rintro e w2 ⟨rfl, rfl⟩
        rw [HD.out]
        go_wp2
        go_ret
        exact ⟨rfl, B1.out⟩
  · obtain ⟨r, hr, hn⟩ := quo_some b1.1 b1.2 hR b2.1 b2.2
    have hrun := fun W => run_float_arith (P := Try.prog) W .quo 79 .f64 _ _ r hr
    have HQ := Lib.hid hr
    have heq : (FloatKind.f64.format.order r r == some .eq) = true := by
      show (Ieee.double.order r r == some .eq) = true
      rw [order_self r hn]; rfl
    have hr0 : (R != 0) = true := by simpa using hR
    clear hr hn
    go_enter Try.func9, Try.ntmps9
    go_wp2_with fail
    refine (awake9_true w).mono ?_
    rintro e w1 ⟨rfl, b1⟩
    have B1 := Lib.hid b1
    clear b1
    go_wp2_with fail
    refine (part_num L R _ w1 HQ.out).mono ?_
    rintro e w2 ⟨rfl, rfl⟩
    go_wp2
    go_ret
    exact ⟨rfl, B1.out⟩
set_option maxRecDepth 100000 in
theorem usageParts_lifted (os : Os) (started : os.Started) (H : Type) (enc : TypeId × Value → H) :
    ReturnsInHanded {} Try.checked os 9 .any (Rows.usagePartsSpec.pre6 enc Try.prog Try.f9 Rows.usagePartsRow.domain false) (Rows.usagePartsSpec.post enc Try.prog Try.f9 false true false false) :=
  law_lifted (s := Rows.usagePartsSpec) started Try.func9 (by kernel_rfl) rfl (fun ds hd => by
        match ds, hd with
        | [_, _], _ => rfl) rfl
      (of_decide_eq_true (by kernel_rfl))
      (ChangeSpec.witness6 (enc := enc) (C := Try.checked) false ⟨#[], #[.int .i64 0, .int .i64 0], []⟩ 8 (by kernel_rfl) (by kernel_rfl) (by kernel_rfl) (by kernel_rfl))
      (fun W base args ds ps hval hA hsz => by
        rw [Try.params9] at hA hval hsz
        obtain ⟨v0, vs0, d0, ds0, p0, q0, hargs, rfl, rfl, h0, r0⟩ := trodAll_cons hA
        obtain ⟨v1, vs1, d1, ds1, p1, q1, rfl, rfl, rfl, h1, r1⟩ := trodAll_cons r0
        obtain ⟨rfl, rfl, rfl⟩ := trodAll_nil r1
        obtain rfl : args = #[v0, v1] := by cases args; simp_all
        simp only [DataW.weightsEach, List.all_append, Bool.and_eq_true] at hsz
        obtain ⟨z0, z1, _⟩ := hsz
        obtain ⟨n, rfl, rfl, rfl, wf⟩ := open_int Try.underlying3 (hval 0 3 v0 rfl rfl) h0
        obtain ⟨m, rfl, rfl, rfl, wf1⟩ := open_int Try.underlying3 (hval 1 3 v1 rfl rfl) h1
        exact usageParts_walk n m W)

theorem usageParts_holds : Rows.UsagePartsSaid :=
  OpenClaim.holds_of_wide 9 Try.f9 rfl rfl rfl rfl rfl rfl rfl ⟨rfl, rfl, rfl, rfl, rfl⟩ rfl rfl rfl rfl rfl (by kernel_rfl) Try.func9 (by kernel_rfl)
    (of_decide_eq_true (by kernel_rfl)) (by unfold Func.isWrapper; first | (rw [if_pos (by decide +kernel)]; kernel_rfl) | (rw [if_neg (by decide +kernel)]; exact ⟨rfl, rfl⟩))
    (fun os started H enc _ => usageParts_lifted os started H enc)
#print axioms usageParts_holds
end Go.Proofs.Ytnlbjpnhepdicaa
