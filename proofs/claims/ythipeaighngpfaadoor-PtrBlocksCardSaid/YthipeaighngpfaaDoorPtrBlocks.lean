/- The law PtrBlocks is true for every input: a size reaches over as many blocks as its bytes need. No condition but that the table ptr.bounds reads as the program's text lays it, to which the card ties it. -/
import Derived.Test.YthipeaighngpfaaDoorAwake7
import Derived.Test.YthipeaighngpfaaDoorCards
import Derived.Test.YthipeaighngpfaaDoorTie
import Derived.SevenTiedAt
namespace Go.Proofs.YthipeaighngpfaaDoor
open Go.ChangeShapes Go.WideShapes Go.ChangeAt Go.RowKit Go.Sort
set_option linter.unusedVariables false
set_option linter.unusedSimpArgs false
set_option maxRecDepth 100000

set_option maxHeartbeats 1000000 in
theorem ptrBlocks_walk (s : Int) (w : World) (hw : BoundsAt w) (hs : I64 s) : Calls Tryd.prog 3 #[.int .i64 s] w fun e w' => e = .returned (.bool true) ∧ Below w.heap.size w w' := by
  have hs' := hs
  obtain ⟨s1, s2⟩ := hs'
  have HW := Lib.hid hw
  have HS := Lib.hid hs
  clear hw hs
  by_cases h0 : s ≤ 0
  · have E : Hid (blocksI s = 0) := if_pos h0
    go_enter Tryd.func3, Tryd.ntmps3
    go_wp2_with fail
    refine (awake7_true w HW.out).mono ?_
    rintro e w1 ⟨rfl, b1⟩
    have B1 := Lib.hid b1
    clear b1
    go_wp2_with fail
    refine (pblocks_is s _ HS.out).mono ?_
    rintro e w2 ⟨rfl, rfl⟩
    rw [E.out]
    go_wp2
    go_ret
    exact ⟨rfl, B1.out⟩
  · have E : Hid (blocksI s = (s - 1) / 128 + 1) := if_neg h0
    have h1 : 1 ≤ s := by omega
    obtain ⟨q, hq⟩ : ∃ q, (s - 1) / 128 = q := ⟨_, rfl⟩
    have hq1 : 0 ≤ q := by omega
    have hq2 : q ≤ 72057594037927936 := by omega
    have hq3 : q < s := by omega
    rw [hq] at E
    have hqs : ((s - 1) / 128 == q) = true := by simp [hq]
    have HQ := Lib.hid hq
    clear hq
    by_cases hbig : s < 200000
    · go_enter Tryd.func3, Tryd.ntmps3
      go_wp2_with fail
      refine (awake7_true w HW.out).mono ?_
      rintro e w1 ⟨rfl, b1⟩
      have B1 := Lib.hid b1
      clear b1
      go_wp2_with fail
      refine (pblocks_is s _ HS.out).mono ?_
      rintro e w2 ⟨rfl, rfl⟩
      rw [E.out]
      go_wp2_with fail
      refine (rblocks_is s _ (by omega) hbig).mono ?_
      rintro e w3 ⟨rfl, rfl⟩
      rw [E.out]
      go_wp2
      go_ret
      exact ⟨rfl, B1.out⟩
    · go_enter Tryd.func3, Tryd.ntmps3
      go_wp2_with fail
      refine (awake7_true w HW.out).mono ?_
      rintro e w1 ⟨rfl, b1⟩
      have B1 := Lib.hid b1
      clear b1
      go_wp2_with fail
      refine (pblocks_is s _ HS.out).mono ?_
      rintro e w2 ⟨rfl, rfl⟩
      rw [E.out]
      go_wp2
      go_ret
      exact ⟨rfl, B1.out⟩
theorem ptrBlocks_met (os : Os) (args : Array Value) : laidMetH Tryd.prog [("drumlin/ptr.bounds", Rows.laid_drumlin_ptr_bounds)] ((World.doorLaid Tryd.prog 400 os).forCall (fun _ _ => 0) ⟨#[], args, []⟩).memory :=
  laidMetH_of_parts3 (fuel := 8) (laidMet_of_run' 8 (by kernel_rfl) (by kernel_rfl)) (by kernel_rfl) (by kernel_rfl)
set_option maxRecDepth 100000 in
theorem ptrBlocks_lifted (os : Os) (started : os.Started) (H : Type) (enc : TypeId × Value → H) :
    ReturnsInHanded {} Tryd.checked os 3 .any (fun w args => (Rows.ptrBlocksSpec.pre enc Tryd.prog Tryd.f3 [] false w args ∧ laidMetH Tryd.prog [("drumlin/ptr.bounds", Rows.laid_drumlin_ptr_bounds)] w) ∧ sizedMet enc Tryd.prog Tryd.f3 (OpenSpec.ofChange Rows.ptrBlocksSpec) false w args) (Rows.ptrBlocksSpec.post enc Tryd.prog Tryd.f3 false true false false) :=
  law_laid (s := Rows.ptrBlocksSpec) started Tryd.func3 (by kernel_rfl) rfl (fun ds hd => by
        match ds, hd with
        | [_], _ => rfl) rfl
      (of_decide_eq_true (by kernel_rfl))
      (ChangeSpec.witness_shaped (enc := enc) (C := Tryd.checked) (os := os) (X := fun w _ => laidMetH Tryd.prog [("drumlin/ptr.bounds", Rows.laid_drumlin_ptr_bounds)] w) false (World.doorLaid Tryd.prog 400 os) #[.int .i64 0] 8 rfl (World.shaped_of_RefB (by kernel_rfl) (by kernel_rfl)) (by kernel_rfl) (by kernel_rfl) (by kernel_rfl) (ptrBlocks_met os _))
      (fun W base args ds ps hval hA hsz hL => by
        rw [Tryd.params3] at hA hval hsz
        obtain ⟨v0, vs0, d0, ds0, p0, q0, hargs, rfl, rfl, h0, r0⟩ := trodAll_cons hA
        obtain ⟨rfl, rfl, rfl⟩ := trodAll_nil r0
        obtain rfl : args = #[v0] := by cases args; simp_all
        simp only [DataW.weightsEach, List.all_append, Bool.and_eq_true] at hsz
        obtain ⟨z0, _⟩ := hsz
        obtain ⟨s, rfl, rfl, rfl, wf⟩ := open_int Tryd.underlying3 (hval 0 3 v0 rfl rfl) h0
        exact ptrBlocks_walk s W (bounds_of_laid hL) (i64_of_wf wf))

theorem ptrBlocks_holds : Rows.PtrBlocksSaid :=
  OpenClaim.holds_of_wide 3 Tryd.f3 rfl rfl rfl rfl rfl rfl rfl ⟨rfl, rfl, rfl, rfl, rfl⟩ rfl rfl rfl rfl rfl (by kernel_rfl) Tryd.func3 (by kernel_rfl)
    (of_decide_eq_true (by kernel_rfl)) (by unfold Func.isWrapper; first | (rw [if_pos (by decide +kernel)]; kernel_rfl) | (rw [if_neg (by decide +kernel)]; exact ⟨rfl, rfl⟩))
    (fun os started H enc _ => ptrBlocks_lifted os started H enc)
/-- The tied card. -/
theorem ptrBlocks_card : Rows.PtrBlocksCardSaid :=
  Claim7.holds_tied_plain_at .later [] [.data] true Rows.ptrBlocksCard.stood.harness false
    ptrBlocks_holds (fun _ h => by cases h) (by kernel_rfl) (fun _ h => by cases h) ptrBlocks_row_tie rfl ⟨rfl, rfl⟩ (by kernel_rfl) rfl
    (fun f fn hf hfn => by
      obtain rfl : f = 3 := Option.some.inj ((show Tryd.prog.funcNamed "drumlin/drumlinlaw07.PtrBlocks" = some 3 by kernel_rfl).symm.trans hf) |>.symm
      obtain rfl : fn = Tryd.f3 := (Option.some.inj (Tryd.func3.symm.trans hfn)).symm
      exact ⟨by kernel_rfl, fun j t ht => by
        rw [Tryd.params3] at ht
        have hm : t ∈ [3] := by simpa using Array.mem_of_getElem? ht
        have hall : ([3].all fun u => !Tryd.prog.wantsStandIn u) = true := by kernel_rfl
        exact (show Tryd.prog.wantsStandIn t = false by simpa using List.all_eq_true.1 hall t hm)⟩)
    (by kernel_rfl)
#print axioms ptrBlocks_card
end Go.Proofs.YthipeaighngpfaaDoor
