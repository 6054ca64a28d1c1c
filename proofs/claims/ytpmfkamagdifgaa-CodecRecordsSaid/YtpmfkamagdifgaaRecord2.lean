/- Whether there is more; the laying of a list of Records (part.Rest). -/
import Derived.Test.YtpmfkamagdifgaaRecord1
import Derived.Test.YtpmfkamagdifgaaLeft
import Derived.Deep.RegionWith
namespace Go.Proofs.Ytpmfkamagdifgaa
open Go.RowKit Go.Sort
set_option linter.unusedVariables false
set_option linter.unusedSimpArgs false
set_option maxRecDepth 100000

theorem enters_moreRecord (args : Array Value) (w : World) : (callFunc 193 args).run Try.prog w = .ok (.enter 193 args) w := enters_of Try.func193 (by kernel_rfl) rfl args w
theorem moreRecord_is {w : World} {pv : Value} {S : PS} (h : IsPort w pv S) {gl gx gp n cap : Nat} {a : Option Addr} (cl : w.cell? ⟨gl, 0, none⟩ = some (.pointer (some ⟨gx, 0, none⟩))) (cx : w.cell? ⟨gx, 0, none⟩ = some (.slice a n cap)) (cp : w.cell? ⟨gp, 0, none⟩ = some pv) (i : Nat) :
    Calls Try.prog 193 #[.int .i64 (i : Int), .pointer (some ⟨gl, 0, none⟩), .pointer (some ⟨gp, 0, none⟩)] w fun e w' => e = .returned (.bool (decide (i < n ∨ 0 < leftS S))) ∧ w = w' := by
  by_cases hi : i < n
  · have h1 : (i : Int) < (n : Int) := by omega
    have hd : decide (i < n ∨ 0 < leftS S) = true := decide_eq_true (.inl hi)
    rw [hd]
    clear h hd hi
    go_enter Try.func193, Try.ntmps193
    go_wp2
    go_ret
    exact ⟨rfl, rfl⟩
  · have h1 : decide (i < n) = false := decide_eq_false hi
    have hd : decide (i < n ∨ 0 < leftS S) = decide (0 < leftS S) := by simp [hi]
    rw [hd]
    have HL := Lib.hid (left_is h)
    cases S with
    | wr l f =>
      obtain ⟨g, v, rfl, hw⟩ := h
      have hna := fun n hn w => naL_wr n g w hn
      have hmt := fun n hn w => mtL_wr n g w hn
      clear hd hi hw
      go_enter Try.func193, Try.ntmps193
      go_wp2_with (go_at_call 296; refine HL.out.mono ?_; rintro e w1 ⟨rfl, rfl⟩)
      go_ret
      exact ⟨rfl, rfl⟩
    | rd b =>
      obtain ⟨g, a2, cap2, rfl, hw⟩ := h
      have hna := fun n hn w => naL_rd n g w hn
      have hmt := fun n hn w => mtL_rd n g w hn
      obtain ⟨m, hm⟩ : ∃ m, leftS (.rd b) = m := ⟨_, rfl⟩
      rw [hm] at HL ⊢
      clear hd hi hw hm
      go_enter Try.func193, Try.ntmps193
      go_wp2_with (go_at_call 298; refine HL.out.mono ?_; rintro e w1 ⟨rfl, rfl⟩)
      go_ret
      exact ⟨rfl, rfl⟩
end Go.Proofs.Ytpmfkamagdifgaa
