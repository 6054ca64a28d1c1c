/- The law SealSums is true for every input: the sum of any bytes is their CRC-32. No condition. -/
import Derived.Test.YtdcnmfkhalfjcaaSIs
import Derived.Test.YtdcnmfkhalfjcaaOpen
namespace Go.Proofs.Ytdcnmfkhalfjcaa
open Go.ChangeShapes Go.WideShapes Go.ChangeAt Go.RowKit
set_option linter.unusedVariables false

set_option maxHeartbeats 800000 in
theorem sealSums_walk (a : Option Addr) (len cap : Nat) (l : List Nat) (w : World) (hr : Reads w a len l) (hl : len ≤ cap) (hc : cap ≤ 140737488351232) :
    Calls Try.prog 7 #[.slice a len cap] w fun e w' => e = .returned (.bool true) ∧ Below w.heap.size w w' := by
  obtain rfl : len = l.length := hr.1.symm
  by_cases h : 2000 < l.length
  · have hr' := hr.take 2000 (by omega)
    go_enter Try.func7, Try.ntmps7
    go_wp2_with fail
    refine (awake2_true _).mono ?_
    rintro e w1 ⟨rfl, hb⟩
    go_wp2_with fail
    refine (crc_any _ _ _ _ _ (hr'.below hb) (by decide)).mono ?_
    rintro e w2 ⟨rfl, rfl⟩
    go_wp2_with fail
    refine (rcrc_any _ _ _ _ _ (hr'.below hb) (by decide)).mono ?_
    rintro e w2 ⟨rfl, rfl⟩
    go_wp2
    go_ret
    exact ⟨rfl, hb⟩
  · have hm : l.length ≤ maxLen := by unfold maxLen; omega
    go_enter Try.func7, Try.ntmps7
    go_wp2_with fail
    refine (awake2_true _).mono ?_
    rintro e w1 ⟨rfl, hb⟩
    go_wp2_with fail
    refine (crc_any _ _ _ _ _ (hr.below hb) hm).mono ?_
    rintro e w2 ⟨rfl, rfl⟩
    go_wp2_with fail
    refine (rcrc_any _ _ _ _ _ (hr.below hb) hm).mono ?_
    rintro e w2 ⟨rfl, rfl⟩
    go_wp2
    go_ret
    exact ⟨rfl, hb⟩

set_option maxRecDepth 100000 in
theorem sealSums_lifted (os : Os) (started : os.Started) (H : Type) (enc : TypeId × Value → H) :
    ReturnsInHanded {} Try.checked os 7 .any (Rows.sealSumsSpec.pre6 enc Try.prog Try.f7 Rows.sealSumsRow.domain false) (Rows.sealSumsSpec.post enc Try.prog Try.f7 false true false false) :=
  law_lifted (s := Rows.sealSumsSpec) started Try.func7 (by kernel_rfl) rfl (fun ds hd => by
        match ds, hd with
        | [_], _ => rfl) rfl
      (of_decide_eq_true (by kernel_rfl))
      (ChangeSpec.witness6 (enc := enc) (C := Try.checked) false ⟨#[], #[.slice none 0 0], []⟩ 8 (by kernel_rfl) (by kernel_rfl) (by kernel_rfl) (by kernel_rfl))
      (fun W base args ds ps hval hA hsz => by
        rw [Try.params7] at hA hval hsz
        obtain ⟨v0, vs0, d0, ds0, p0, q0, hargs, rfl, rfl, h0, r0⟩ := trodAll_cons hA
        obtain ⟨rfl, rfl, rfl⟩ := trodAll_nil r0
        obtain rfl : args = #[v0] := by cases args; simp_all
        simp only [DataW.weightsEach, List.all_append, Bool.and_eq_true] at hsz
        obtain ⟨z0, _⟩ := hsz
        obtain ⟨a, len, cap, l, rfl, hr, hl, hc⟩ := open_bytes (hval 0 22 v0 rfl rfl) h0 z0
        exact sealSums_walk a len cap l W hr hl hc)

theorem sealSums_holds : Rows.SealSumsSaid :=
  OpenClaim.holds_of_wide 7 Try.f7 rfl rfl rfl rfl rfl rfl rfl ⟨rfl, rfl, rfl, rfl, rfl⟩ rfl rfl rfl rfl rfl (by kernel_rfl) Try.func7 (by kernel_rfl)
    (of_decide_eq_true (by kernel_rfl)) (by unfold Func.isWrapper; first | (rw [if_pos (by decide +kernel)]; kernel_rfl) | (rw [if_neg (by decide +kernel)]; exact ⟨rfl, rfl⟩))
    (fun os started H enc _ => sealSums_lifted os started H enc)
#print axioms sealSums_holds
end Go.Proofs.Ytdcnmfkhalfjcaa
