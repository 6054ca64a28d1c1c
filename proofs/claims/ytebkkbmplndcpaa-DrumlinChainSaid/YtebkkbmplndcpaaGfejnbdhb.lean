/- Pipes: Ends. -/
import Derived.Test.YtebkkbmplndcpaaGcdemhafa
namespace Go.Proofs.Ytebkkbmplndcpaa
open Go.RowKit Go.Sort
set_option linter.unusedVariables false
set_option linter.unusedSimpArgs false
set_option maxRecDepth 100000

set_option maxHeartbeats 1600000 in
theorem pends_is {B : Nat} {w : World} {g gs : Nat} {fl : List PipeD} (h : IsPipes B w g gs fl) (n : Int) (i : Nat) (hn : n = (i : Int) + 1) (s : PipeD) (hu : fl[i]? = some s) (hk : thereB s = true) :
    Calls Try.prog 32 #[.pointer (some ⟨g, 0, none⟩), .int .i64 n] w fun e w' => e = .returned (.tuple #[.int .i64 (s.readers : Nat), .int .i64 (s.writers : Nat), .int .i64 0]) ∧ Below w.heap.size w w' := by
  have HF := Lib.hid (pfind_yes h n i hn s hu hk)
  have H := Lib.hid h
  have HU := Lib.hid hu
  clear h hu hk hn
  go_enter Try.func32, Try.ntmps32
  go_wp2_with fail
  refine HF.out.mono ?_
  rintro e w1 ⟨rfl, b1⟩
  obtain ⟨r0, r1, r2, r3⟩ := pipes_row (H.out.below b1) HU.out
  have HB := Lib.hid b1
  clear b1
  go_wp2
  go_quiet (fail)
  go_wp2
  go_ret3
  exact ⟨rfl, below_next HB.out (below_drewN w1 nq)⟩
end Go.Proofs.Ytebkkbmplndcpaa
