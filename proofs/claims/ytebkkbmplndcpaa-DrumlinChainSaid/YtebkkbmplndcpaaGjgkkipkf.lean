/- The law's fixed fact about processes. -/
import Derived.Test.YtebkkbmplndcpaaGgjodofpj
namespace Go.Proofs.Ytebkkbmplndcpaa
open Go.RowKit Go.Sort
set_option linter.unusedVariables false
set_option linter.unusedSimpArgs false
set_option maxRecDepth 100000

theorem TKeeps.belowT {B w0s : Nat} {w0 w w' : World} {g gs cap : Nat} {T : TabD} (h : TKeeps g gs w w') (ht : IsTable B w g gs cap T) (hb : Below w0.heap.size w0 w) (hB : w0.heap.size ≤ B) : Below w0.heap.size w0 w' :=
  h.below hb (Nat.le_of_lt (Nat.lt_of_le_of_lt hB (Nat.lt_of_le_of_lt ht.2.2.1 (table_lt ht).1))) (Nat.le_trans hB ht.2.2.1) (Nat.le_trans hB (table_lt ht).2.2)
def tA : TabD := ⟨4, 2, 0, [firstProc, ⟨2, 1, 1, 0, 0, false⟩]⟩
def tB : TabD := ⟨4, 3, 0, [firstProc, ⟨2, 1, 1, 0, 0, false⟩, ⟨3, 2, 1, 0, 0, false⟩]⟩
def tC : TabD := ⟨4, 3, 0, [firstProc, ⟨2, 1, 1, 0, 0, false⟩, ⟨3, 2, 3, 7, 0, false⟩]⟩
set_option maxHeartbeats 1600000 in
theorem awake22_true (w : World) : Calls Try.prog 6 #[] w fun e w' => e = .returned (.bool true) ∧ Below w.heap.size w w' := by
  go_enter Try.func6, Try.ntmps6
  go_wp2_with fail
  refine (tnew_is 4 4 (by decide) w).mono ?_
  rintro e w1 ⟨g, gs, rfl, h1, b1⟩
  have H1 := Lib.hid h1
  have HB1 := Lib.hid b1
  have f1 : Calls Try.prog 9 #[.pointer (some ⟨g, 0, none⟩), .int .i64 1] w1 (TPost w.heap.size w1 g gs tA (.tuple #[.int .i64 2, .int .i64 0])) := tfork_yes h1 (i := 0) (s := firstProc) ⟨by rfl, rfl⟩ (by decide) (by decide) (by decide)
  have HF1 := Lib.hid f1
  clear h1 b1 f1
  go_wp2_with fail
  refine HF1.out.mono ?_
  rintro e w2 ⟨gs2, cap2, rfl, h2, k2⟩
  have H2 := Lib.hid h2
  have HB2 := Lib.hid (k2.belowT (w0s := 0) H1.out HB1.out (Nat.le_refl _))
  have f2 : Calls Try.prog 9 #[.pointer (some ⟨g, 0, none⟩), .int .i64 2] w2 (TPost w.heap.size w2 g gs2 tB (.tuple #[.int .i64 3, .int .i64 0])) := tfork_yes h2 (i := 1) (s := ⟨2, 1, 1, 0, 0, false⟩) ⟨by rfl, rfl⟩ (by decide) (by decide) (by decide)
  have HF2 := Lib.hid f2
  clear h2 k2 f2 HF1
  go_wp2_with fail
  refine HF2.out.mono ?_
  rintro e w3 ⟨gs3, cap3, rfl, h3, k3⟩
  have H3 := Lib.hid h3
  have HB3 := Lib.hid (k3.belowT (w0s := 0) H2.out HB2.out (Nat.le_refl _))
  have f3 : Calls Try.prog 14 #[.pointer (some ⟨g, 0, none⟩), .int .i64 3, .int .i64 7] w3 (TPost w.heap.size w3 g gs3 tC (.int .i64 0)) := texit_yes h3 (i := 2) (s := ⟨3, 2, 1, 0, 0, false⟩) ⟨by rfl, rfl⟩ (by decide) (by decide) 7 (by decide)
  have HF3 := Lib.hid f3
  clear h3 k3 f3 HF2
  go_wp2_with fail
  refine HF3.out.mono ?_
  rintro e w4 ⟨gs4, cap4, rfl, h4, k4⟩
  have H4 := Lib.hid h4
  have HB4 := Lib.hid (k4.belowT (w0s := 0) H3.out HB3.out (Nat.le_refl _))
  have f4 : Calls Try.prog 34 #[.pointer (some ⟨g, 0, none⟩), .int .i64 2] w4 (TPost w.heap.size w4 g gs4 { tC with list := tC.list.eraseIdx 2 } (.tuple #[.int .i64 3, .int .i64 7, .int .i64 0])) := twait_yes h4 (i := 1) (s := ⟨2, 1, 1, 0, 0, false⟩) ⟨by rfl, rfl⟩ (by decide) (by decide) (k := 2) (c := ⟨3, 2, 3, 7, 0, false⟩) (by rfl) rfl (by decide)
  have HF4 := Lib.hid f4
  clear h4 k4 f4 HF3
  go_wp2_with fail
  refine HF4.out.mono ?_
  rintro e w5 ⟨gs5, cap5, rfl, h5, k5⟩
  have HB5 := Lib.hid (k5.belowT (w0s := 0) H4.out HB4.out (Nat.le_refl _))
  clear h5 k5
  go_wp2_with fail
  go_ret
  exact ⟨rfl, HB5.out⟩
end Go.Proofs.Ytebkkbmplndcpaa
