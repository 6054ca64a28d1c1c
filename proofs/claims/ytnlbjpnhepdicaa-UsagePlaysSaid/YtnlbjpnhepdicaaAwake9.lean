/- Layer 9's fixed fact. -/
import Derived.Test.YtnlbjpnhepdicaaTab5
namespace Go.Proofs.Ytnlbjpnhepdicaa
open Go.RowKit Go.Sort
set_option linter.unusedVariables false
set_option linter.unusedSimpArgs false
set_option maxRecDepth 100000

def tab0 : List UseD := [zeroU, zeroU, zeroU]
def tab1 : List UseD := [zeroU, ⟨0, 1, 0⟩, zeroU]
def tab2 : List UseD := [zeroU, ⟨4, 1, 0⟩, zeroU]
theorem order_tab2 : orderL 16 0 tab2 = [1] := by
  unfold orderL
  have : inL 1 tab2 = [1] := by decide
  rw [this]
  unfold sortL
  rfl
set_option maxHeartbeats 2000000 in
theorem awake9_true (w : World) : Calls Try.prog 24 #[] w fun e w' => e = .returned (.bool true) ∧ Below w.heap.size w w' := by
  have h1 : ((inL 0 tab0).length : Int) = 3 := by decide
  have h2 : liveTo tab2 tab2.length = 4 := by decide
  have H1 := Lib.hid h1
  have H2 := Lib.hid h2
  clear h1 h2
  go_enter Try.func24, Try.ntmps24
  go_wp2_with fail
  refine (tnew_is 3 16 w ⟨by decide, by decide⟩ ⟨by decide, by decide⟩ 3 rfl).mono ?_
  rintro e w1 ⟨g, gs, rfl, t1, b1⟩
  have T1 : Hid (IsTab w.heap.size w1 g gs 16 tab0) := t1
  have B1 := Lib.hid b1
  clear t1 b1
  go_wp2_with fail
  refine (tclean_is T1.out).mono ?_
  rintro e w2 ⟨rfl, b2⟩
  rw [H1.out]
  have T2 := Lib.hid (T1.out.below b2)
  have B2 := Lib.hid (below_next B1.out b2)
  clear b2 T1 B1
  go_wp2_with fail
  refine (tset_yes T2.out 1 zeroU rfl 1 (by decide) (by decide)).mono ?_
  rintro e w3 ⟨rfl, t3, g3⟩
  have T3 : Hid (IsTab w.heap.size w3 g gs 16 tab1) := t3
  have B3 : Hid (Below w.heap.size w w3) := T2.out.2.1.grown B2.out B2.out.size g3
  clear t3 g3 T2 B2
  go_wp2_with fail
  refine (tcount_yes T3.out 1 ⟨0, 1, 0⟩ rfl 4 (by decide) (by decide)).mono ?_
  rintro e w4 ⟨rfl, t4, g4⟩
  have T4 : Hid (IsTab w.heap.size w4 g gs 16 tab2) := t4
  have B4 : Hid (Below w.heap.size w w4) := T3.out.2.1.grown B3.out B3.out.size g4
  clear t4 g4 T3 B3
  go_wp2_with fail
  refine (torder_is T4.out 0 (by decide) (by decide)).mono ?_
  rintro e w5 ⟨a, c, rfl, hr, hc, b5⟩
  rw [order_tab2] at hr hc
  rw [order_tab2]
  have T5 := Lib.hid (T4.out.below b5)
  have B5 := Lib.hid (below_next B4.out b5)
  obtain ⟨ga, oa, rfl, hga, hcell⟩ := hr.at (i := 0) (u := .int .i64 1) rfl
  have hc0 : w5.cell? ⟨ga, oa, none⟩ = some (.int .i64 1) := hcell
  clear b5 T4 B4 hr hga hcell hc
  rw [show ([1] : List Nat).length = 1 from rfl]
  go_wp2_with fail
  refine (tlive_is T5.out).mono ?_
  rintro e w6 ⟨rfl, b6⟩
  rw [H2.out]
  go_wp2
  go_ret
  exact ⟨rfl, below_next B5.out b6⟩
end Go.Proofs.Ytnlbjpnhepdicaa
