/- Check of an open that may be. (Printed by wip/gen/check23.py.) -/
import Derived.Test.YtebgejoemlgggaaDoorMay23
import Derived.Lib.MinMax
import Derived.Deep.RegionHeld3
namespace Go.Proofs.YtebgejoemlgggaaDoor
open Go.RowKit Go.Sort
set_option linter.unusedVariables false
set_option linter.unusedSimpArgs false
set_option maxRecDepth 100000

theorem bare7 (a b : Int) (S T : ByteArray) (da : Option Addr) (dn dc : Nat) : bareC (shapeN 7).2 7 a b S T da dn dc = #[.int .i64 7, .int .i64 a, .int .i64 0, .string S, .string ⟨#[]⟩, .slice none 0 0] := by
  have e : (shapeN 7).2 = [83, 65] := by decide
  rw [e]
  unfold bareC callC
  simp
set_option maxHeartbeats 1600000 in
theorem check7_is (a b : Int) (S T : ByteArray) (da : Option Addr) (dn dc : Nat) (w : World) (hv : VarsAt w) (hmay : mayOpenB a = true) (hS : S.size ≤ 4096) :
    Calls Tryd.prog 21 #[.agg #[.int .i64 7, .int .i64 a, .int .i64 b, .string S, .string T, .slice da dn dc]] w fun e w' => e = .returned (.int .i64 0) ∧ Below w.heap.size w w' := by
  have m0 := heap_alloc_new w (.cells #[.int .i64 7, .int .i64 a, .int .i64 b, .string S, .string T, .slice da dn dc] 27)
  have k0 := below_box w (.cells #[.int .i64 7, .int .i64 a, .int .i64 b, .string S, .string T, .slice da dn dc] 27)
  obtain ⟨w1, hw1⟩ : ∃ x, w.alloc (.cells #[.int .i64 7, .int .i64 a, .int .i64 b, .string S, .string T, .slice da dn dc] 27) = x := ⟨_, rfl⟩
  rw [hw1] at m0 k0
  have c0 := cell_atB m0 0
  have c1 := cell_atB m0 1
  have c2 := cell_atB m0 2
  have c3 := cell_atB m0 3
  have c4 := cell_atB m0 4
  have c5 := cell_atB m0 5
  have HBR := bare_is 7 a b S T da dn dc w1 (hv.below k0) (by unfold I64; omega)
  rw [bare7] at HBR
  have HBR := Lib.hid HBR
  have HV1 := Lib.hid (hv.below k0)
  have KX := Lib.hid k0
  have HMO := Lib.hid hmay
  clear hv m0 k0 hmay
  go_enter Tryd.func21, Tryd.ntmps21
  go_wp2_with fail
  refine HBR.out.mono ?_
  rintro e w2 ⟨rfl, b2⟩
  have m3 := heap_alloc_new w2 (.cells #[.int .i64 7, .int .i64 a, .int .i64 0, .string S, .string ⟨#[]⟩, .slice none 0 0] 27)
  have k3 := below_box w2 (.cells #[.int .i64 7, .int .i64 a, .int .i64 0, .string S, .string ⟨#[]⟩, .slice none 0 0] 27)
  have HB3 := Lib.hid (below_next (below_next KX.out b2) k3)
  have HV2 := HV1.out.below b2
  have HV3 := Lib.hid (HV2.below k3)
  clear c0 c1 c2 c3 c4 c5 HBR b2
  obtain ⟨n, hn⟩ : ∃ n, S.size = n := ⟨_, rfl⟩
  rw [hn] at hS
  have hS2 : (n : Int) ≤ 4096 := by omega
  have hn0 : (0 : Int) ≤ (n : Int) := by omega
  go_wp2
  obtain ⟨g3, hg3⟩ : ∃ x, w2.heap.size = x := ⟨_, rfl⟩
  obtain ⟨w3, hw3⟩ : ∃ x, w2.alloc (.cells #[.int .i64 7, .int .i64 a, .int .i64 0, .string S, .string ⟨#[]⟩, .slice none 0 0] 27) = x := ⟨_, rfl⟩
  rw [hw3] at m3 HB3 HV3 ⊢
  rw [hg3] at m3 ⊢
  have HM3 := Lib.hid m3
  have HCL : Hid (∀ W, Below w3.heap.size w3 W → W.cell? ⟨g3, 0, none⟩ = some (.int .i64 7) ∧ W.cell? ⟨g3, 1, none⟩ = some (.int .i64 a) ∧ W.cell? ⟨g3, 2, none⟩ = some (.int .i64 0)) := Lib.hid (fun W hW => by
    have hb := (hW.block g3 (Array.getElem?_eq_some_iff.1 HM3.out).1).trans HM3.out
    exact ⟨cell_atB hb 0, cell_atB hb 1, cell_atB hb 2⟩)
  have HNM := Lib.hid (fun (W : World) (hW : Below w3.heap.size w3 W) => name_is 7 (by unfold I64; omega) W (HV3.out.below hW))
  have HXN : Hid (strB (shapeN 7).1 = .string ⟨#[111, 112, 101, 110]⟩) := Lib.hid (by
    have e : (shapeN 7).1 = [111, 112, 101, 110] := by decide
    rw [e]; rfl)
  clear m3 k3 hw3 hg3
  refine wp_region_held_drew (S := (fun w' => w'.cell? ⟨g3, 0, none⟩ = some (.int .i64 7) ∧ w'.cell? ⟨g3, 1, none⟩ = some (.int .i64 a) ∧ w'.cell? ⟨g3, 2, none⟩ = some (.int .i64 0))) (by kernel_rfl) (HCL.out _ (below_drew w3)) (fun hHeld => ?_)
  refine wpAnyH_take (i := 0) (v := .pointer (some ⟨g3, 0, none⟩)) rfl (by kernel_rfl) (by kernel_rfl) (by kernel_rfl) (fun _ _ _ h => h) (Or.inl ⟨by kernel_rfl, fun wS hSw => by
    dsimp only at hSw
    obtain ⟨s0, s1, s2⟩ := hSw
    go_simp⟩) hHeld ?_
  try simp only [Act.put, List.setIfInBounds_toArray, List.set_cons_zero, List.set_cons_succ]
  refine wpAnyH_take (i := 1) (v := .int .i64 7) rfl (by kernel_rfl) (by kernel_rfl) (by kernel_rfl) (fun _ _ _ h => h) (Or.inl ⟨by kernel_rfl, fun wS hSw => by
    dsimp only at hSw
    obtain ⟨s0, s1, s2⟩ := hSw
    go_simp⟩) hHeld ?_
  try simp only [Act.put, List.setIfInBounds_toArray, List.set_cons_zero, List.set_cons_succ]
  refine wpAnyH_take (i := 5) (v := .pointer (some ⟨g3, 0, none⟩)) rfl (by kernel_rfl) (by kernel_rfl) (by kernel_rfl) (fun _ _ _ h => h) (Or.inl ⟨by kernel_rfl, fun wS hSw => by
    dsimp only at hSw
    obtain ⟨s0, s1, s2⟩ := hSw
    go_simp⟩) hHeld ?_
  try simp only [Act.put, List.setIfInBounds_toArray, List.set_cons_zero, List.set_cons_succ]
  refine wpAnyH_take (i := 6) (v := .int .i64 7) rfl (by kernel_rfl) (by kernel_rfl) (by kernel_rfl) (fun _ _ _ h => h) (Or.inl ⟨by kernel_rfl, fun wS hSw => by
    dsimp only at hSw
    obtain ⟨s0, s1, s2⟩ := hSw
    go_simp⟩) hHeld ?_
  try simp only [Act.put, List.setIfInBounds_toArray, List.set_cons_zero, List.set_cons_succ]
  refine wpAnyH_take (i := 7) (v := .bool false) rfl (by kernel_rfl) (by kernel_rfl) (by kernel_rfl) (fun _ _ _ h => h) (Or.inl ⟨by kernel_rfl, fun wS hSw => by
    dsimp only at hSw
    obtain ⟨s0, s1, s2⟩ := hSw
    go_simp⟩) hHeld ?_
  try simp only [Act.put, List.setIfInBounds_toArray, List.set_cons_zero, List.set_cons_succ]
  refine wpAnyH_take (i := 14) (v := .pointer (some ⟨g3, 0, none⟩)) rfl (by kernel_rfl) (by kernel_rfl) (by kernel_rfl) (fun _ _ _ h => h) (Or.inl ⟨by kernel_rfl, fun wS hSw => by
    dsimp only at hSw
    obtain ⟨s0, s1, s2⟩ := hSw
    go_simp⟩) hHeld ?_
  try simp only [Act.put, List.setIfInBounds_toArray, List.set_cons_zero, List.set_cons_succ]
  refine wpAnyH_take (i := 15) (v := .int .i64 7) rfl (by kernel_rfl) (by kernel_rfl) (by kernel_rfl) (fun _ _ _ h => h) (Or.inl ⟨by kernel_rfl, fun wS hSw => by
    dsimp only at hSw
    obtain ⟨s0, s1, s2⟩ := hSw
    go_simp⟩) hHeld ?_
  try simp only [Act.put, List.setIfInBounds_toArray, List.set_cons_zero, List.set_cons_succ]
  refine wpAnyH_take (i := 16) (v := .bool false) rfl (by kernel_rfl) (by kernel_rfl) (by kernel_rfl) (fun _ _ _ h => h) (Or.inl ⟨by kernel_rfl, fun wS hSw => by
    dsimp only at hSw
    obtain ⟨s0, s1, s2⟩ := hSw
    go_simp⟩) hHeld ?_
  try simp only [Act.put, List.setIfInBounds_toArray, List.set_cons_zero, List.set_cons_succ]
  refine wpAnyH_take (i := 28) (v := .pointer (some ⟨g3, 0, none⟩)) rfl (by kernel_rfl) (by kernel_rfl) (by kernel_rfl) (fun _ _ _ h => h) (Or.inl ⟨by kernel_rfl, fun wS hSw => by
    dsimp only at hSw
    obtain ⟨s0, s1, s2⟩ := hSw
    go_simp⟩) hHeld ?_
  try simp only [Act.put, List.setIfInBounds_toArray, List.set_cons_zero, List.set_cons_succ]
  refine wpAnyH_take (i := 29) (v := .int .i64 7) rfl (by kernel_rfl) (by kernel_rfl) (by kernel_rfl) (fun _ _ _ h => h) (Or.inl ⟨by kernel_rfl, fun wS hSw => by
    dsimp only at hSw
    obtain ⟨s0, s1, s2⟩ := hSw
    go_simp⟩) hHeld ?_
  try simp only [Act.put, List.setIfInBounds_toArray, List.set_cons_zero, List.set_cons_succ]
  refine wpAnyH_take (i := 30) (v := .bool true) rfl (by kernel_rfl) (by kernel_rfl) (by kernel_rfl) (fun _ _ _ h => h) (Or.inl ⟨by kernel_rfl, fun wS hSw => by
    dsimp only at hSw
    obtain ⟨s0, s1, s2⟩ := hSw
    go_simp⟩) hHeld ?_
  try simp only [Act.put, List.setIfInBounds_toArray, List.set_cons_zero, List.set_cons_succ]
  refine wpAnyH_take (i := 38) (v := .int .i64 (n : Int)) rfl (by kernel_rfl) (by kernel_rfl) (by kernel_rfl) (fun _ _ _ h => h) (Or.inl ⟨by kernel_rfl, fun wS hSw => by
    dsimp only at hSw
    obtain ⟨s0, s1, s2⟩ := hSw
    go_simp⟩) hHeld ?_
  try simp only [Act.put, List.setIfInBounds_toArray, List.set_cons_zero, List.set_cons_succ]
  refine wpAnyH_take (i := 39) (v := .bool false) rfl (by kernel_rfl) (by kernel_rfl) (by kernel_rfl) (fun _ _ _ h => h) (Or.inl ⟨by kernel_rfl, fun wS hSw => by
    dsimp only at hSw
    obtain ⟨s0, s1, s2⟩ := hSw
    go_simp⟩) hHeld ?_
  try simp only [Act.put, List.setIfInBounds_toArray, List.set_cons_zero, List.set_cons_succ]
  refine wpAnyH_ready (rs := [2]) (by kernel_rfl) (by simp) ?_
  refine AllReadyH.cons rfl (fun K hK => ?_) AllReadyH.nil
  go_simp
  refine (HNM.out _ (below_drew w3)).mono ?_
  rintro e w4 ⟨rfl, b4⟩
  rw [HXN.out]
  have K4 := below_next (below_drew w3) b4
  try dsimp only
  refine hK.out _ _ (HCL.out _ K4) (fun hHeld2 => ?_)
  clear hK K hHeld
  have hHeld := hHeld2
  clear hHeld2
  try simp only [Act.put, List.setIfInBounds_toArray, List.set_cons_zero, List.set_cons_succ]
  refine wpAnyH_take (i := 3) (v := .bool false) rfl (by kernel_rfl) (by kernel_rfl) (by kernel_rfl) (fun _ _ _ h => h) (Or.inl ⟨by kernel_rfl, fun wS hSw => by
    dsimp only at hSw
    obtain ⟨s0, s1, s2⟩ := hSw
    go_simp⟩) hHeld ?_
  try simp only [Act.put, List.setIfInBounds_toArray, List.set_cons_zero, List.set_cons_succ]
  refine wpAnyH_ready (rs := [4]) (by kernel_rfl) (by simp) ?_
  refine AllReadyH.cons rfl (fun K hK => ?_) AllReadyH.nil
  go_simp
  refine (when_is false 1 _).mono ?_
  rintro e W ⟨rfl, hW9⟩
  have hW8 := hW9.symm
  clear hW9
  subst hW8
  try dsimp only
  refine hK.out _ _ (HCL.out _ K4) (fun hHeld2 => ?_)
  clear hK K hHeld
  have hHeld := hHeld2
  clear hHeld2
  try simp only [Act.put, List.setIfInBounds_toArray, List.set_cons_zero, List.set_cons_succ]
  refine wpAnyH_take (i := 8) (v := .bool false) rfl (by kernel_rfl) (by kernel_rfl) (by kernel_rfl) (fun _ _ _ h => h) (Or.inl ⟨by kernel_rfl, fun wS hSw => by
    dsimp only at hSw
    obtain ⟨s0, s1, s2⟩ := hSw
    go_simp⟩) hHeld ?_
  try simp only [Act.put, List.setIfInBounds_toArray, List.set_cons_zero, List.set_cons_succ]
  refine wpAnyH_take (i := 9) (v := undef) rfl (by kernel_rfl) (by kernel_rfl) (by kernel_rfl) (fun _ _ _ h => h) (Or.inr ⟨by kernel_rfl, rfl⟩) hHeld ?_
  try simp only [Act.put, List.setIfInBounds_toArray, List.set_cons_zero, List.set_cons_succ]
  refine wpAnyH_take (i := 10) (v := undef) rfl (by kernel_rfl) (by kernel_rfl) (by kernel_rfl) (fun _ _ _ h => h) (Or.inr ⟨by kernel_rfl, rfl⟩) hHeld ?_
  try simp only [Act.put, List.setIfInBounds_toArray, List.set_cons_zero, List.set_cons_succ]
  refine wpAnyH_take (i := 11) (v := undef) rfl (by kernel_rfl) (by kernel_rfl) (by kernel_rfl) (fun _ _ _ h => h) (Or.inr ⟨by kernel_rfl, rfl⟩) hHeld ?_
  try simp only [Act.put, List.setIfInBounds_toArray, List.set_cons_zero, List.set_cons_succ]
  refine wpAnyH_take (i := 12) (v := .bool false) rfl (by kernel_rfl) (by kernel_rfl) (by kernel_rfl) (fun _ _ _ h => h) (Or.inl ⟨by kernel_rfl, fun wS hSw => by
    dsimp only at hSw
    obtain ⟨s0, s1, s2⟩ := hSw
    go_simp⟩) hHeld ?_
  try simp only [Act.put, List.setIfInBounds_toArray, List.set_cons_zero, List.set_cons_succ]
  refine wpAnyH_ready (rs := [13]) (by kernel_rfl) (by simp) ?_
  refine AllReadyH.cons rfl (fun K hK => ?_) AllReadyH.nil
  go_simp
  refine (when_is false 1 _).mono ?_
  rintro e W ⟨rfl, hW9⟩
  have hW8 := hW9.symm
  clear hW9
  subst hW8
  try dsimp only
  refine hK.out _ _ (HCL.out _ K4) (fun hHeld2 => ?_)
  clear hK K hHeld
  have hHeld := hHeld2
  clear hHeld2
  try simp only [Act.put, List.setIfInBounds_toArray, List.set_cons_zero, List.set_cons_succ]
  refine wpAnyH_take (i := 17) (v := .bool false) rfl (by kernel_rfl) (by kernel_rfl) (by kernel_rfl) (fun _ _ _ h => h) (Or.inl ⟨by kernel_rfl, fun wS hSw => by
    dsimp only at hSw
    obtain ⟨s0, s1, s2⟩ := hSw
    go_simp⟩) hHeld ?_
  try simp only [Act.put, List.setIfInBounds_toArray, List.set_cons_zero, List.set_cons_succ]
  refine wpAnyH_take (i := 18) (v := .pointer (some ⟨g3, 0, none⟩)) rfl (by kernel_rfl) (by kernel_rfl) (by kernel_rfl) (fun _ _ _ h => h) (Or.inl ⟨by kernel_rfl, fun wS hSw => by
    dsimp only at hSw
    obtain ⟨s0, s1, s2⟩ := hSw
    go_simp⟩) hHeld ?_
  try simp only [Act.put, List.setIfInBounds_toArray, List.set_cons_zero, List.set_cons_succ]
  refine wpAnyH_take (i := 19) (v := .int .i64 7) rfl (by kernel_rfl) (by kernel_rfl) (by kernel_rfl) (fun _ _ _ h => h) (Or.inl ⟨by kernel_rfl, fun wS hSw => by
    dsimp only at hSw
    obtain ⟨s0, s1, s2⟩ := hSw
    go_simp⟩) hHeld ?_
  try simp only [Act.put, List.setIfInBounds_toArray, List.set_cons_zero, List.set_cons_succ]
  refine wpAnyH_take (i := 20) (v := .bool false) rfl (by kernel_rfl) (by kernel_rfl) (by kernel_rfl) (fun _ _ _ h => h) (Or.inl ⟨by kernel_rfl, fun wS hSw => by
    dsimp only at hSw
    obtain ⟨s0, s1, s2⟩ := hSw
    go_simp⟩) hHeld ?_
  try simp only [Act.put, List.setIfInBounds_toArray, List.set_cons_zero, List.set_cons_succ]
  refine wpAnyH_take (i := 21) (v := .bool false) rfl (by kernel_rfl) (by kernel_rfl) (by kernel_rfl) (fun _ _ _ h => h) (Or.inl ⟨by kernel_rfl, fun wS hSw => by
    dsimp only at hSw
    obtain ⟨s0, s1, s2⟩ := hSw
    go_simp⟩) hHeld ?_
  try simp only [Act.put, List.setIfInBounds_toArray, List.set_cons_zero, List.set_cons_succ]
  refine wpAnyH_take (i := 22) (v := .bool false) rfl (by kernel_rfl) (by kernel_rfl) (by kernel_rfl) (fun _ _ _ h => h) (Or.inl ⟨by kernel_rfl, fun wS hSw => by
    dsimp only at hSw
    obtain ⟨s0, s1, s2⟩ := hSw
    go_simp⟩) hHeld ?_
  try simp only [Act.put, List.setIfInBounds_toArray, List.set_cons_zero, List.set_cons_succ]
  refine wpAnyH_take (i := 23) (v := undef) rfl (by kernel_rfl) (by kernel_rfl) (by kernel_rfl) (fun _ _ _ h => h) (Or.inr ⟨by kernel_rfl, rfl⟩) hHeld ?_
  try simp only [Act.put, List.setIfInBounds_toArray, List.set_cons_zero, List.set_cons_succ]
  refine wpAnyH_take (i := 24) (v := undef) rfl (by kernel_rfl) (by kernel_rfl) (by kernel_rfl) (fun _ _ _ h => h) (Or.inr ⟨by kernel_rfl, rfl⟩) hHeld ?_
  try simp only [Act.put, List.setIfInBounds_toArray, List.set_cons_zero, List.set_cons_succ]
  refine wpAnyH_take (i := 25) (v := undef) rfl (by kernel_rfl) (by kernel_rfl) (by kernel_rfl) (fun _ _ _ h => h) (Or.inr ⟨by kernel_rfl, rfl⟩) hHeld ?_
  try simp only [Act.put, List.setIfInBounds_toArray, List.set_cons_zero, List.set_cons_succ]
  refine wpAnyH_take (i := 26) (v := .bool false) rfl (by kernel_rfl) (by kernel_rfl) (by kernel_rfl) (fun _ _ _ h => h) (Or.inl ⟨by kernel_rfl, fun wS hSw => by
    dsimp only at hSw
    obtain ⟨s0, s1, s2⟩ := hSw
    go_simp⟩) hHeld ?_
  try simp only [Act.put, List.setIfInBounds_toArray, List.set_cons_zero, List.set_cons_succ]
  refine wpAnyH_ready (rs := [27]) (by kernel_rfl) (by simp) ?_
  refine AllReadyH.cons rfl (fun K hK => ?_) AllReadyH.nil
  go_simp
  refine (when_is false 1 _).mono ?_
  rintro e W ⟨rfl, hW9⟩
  have hW8 := hW9.symm
  clear hW9
  subst hW8
  try dsimp only
  refine hK.out _ _ (HCL.out _ K4) (fun hHeld2 => ?_)
  clear hK K hHeld
  have hHeld := hHeld2
  clear hHeld2
  try simp only [Act.put, List.setIfInBounds_toArray, List.set_cons_zero, List.set_cons_succ]
  refine wpAnyH_take (i := 31) (v := .bool true) rfl (by kernel_rfl) (by kernel_rfl) (by kernel_rfl) (fun _ _ _ h => h) (Or.inl ⟨by kernel_rfl, fun wS hSw => by
    dsimp only at hSw
    obtain ⟨s0, s1, s2⟩ := hSw
    go_simp⟩) hHeld ?_
  try simp only [Act.put, List.setIfInBounds_toArray, List.set_cons_zero, List.set_cons_succ]
  refine wpAnyH_take (i := 32) (v := .pointer (some ⟨g3, 1, none⟩)) rfl (by kernel_rfl) (by kernel_rfl) (by kernel_rfl) (fun _ _ _ h => h) (Or.inl ⟨by kernel_rfl, fun wS hSw => by
    dsimp only at hSw
    obtain ⟨s0, s1, s2⟩ := hSw
    go_simp⟩) hHeld ?_
  try simp only [Act.put, List.setIfInBounds_toArray, List.set_cons_zero, List.set_cons_succ]
  refine wpAnyH_take (i := 33) (v := .int .i64 a) rfl (by kernel_rfl) (by kernel_rfl) (by kernel_rfl) (fun _ _ _ h => h) (Or.inl ⟨by kernel_rfl, fun wS hSw => by
    dsimp only at hSw
    obtain ⟨s0, s1, s2⟩ := hSw
    go_simp⟩) hHeld ?_
  try simp only [Act.put, List.setIfInBounds_toArray, List.set_cons_zero, List.set_cons_succ]
  refine wpAnyH_ready (rs := [34]) (by kernel_rfl) (by simp) ?_
  refine AllReadyH.cons rfl (fun K hK => ?_) AllReadyH.nil
  go_simp
  refine (mayOpen_is a _).mono ?_
  rintro e w5 ⟨rfl, b5⟩
  rw [HMO.out]
  have K5 := below_next K4 b5
  try dsimp only
  refine hK.out _ _ (HCL.out _ K5) (fun hHeld2 => ?_)
  clear hK K hHeld
  have hHeld := hHeld2
  clear hHeld2
  try simp only [Act.put, List.setIfInBounds_toArray, List.set_cons_zero, List.set_cons_succ]
  refine wpAnyH_take (i := 35) (v := .bool false) rfl (by kernel_rfl) (by kernel_rfl) (by kernel_rfl) (fun _ _ _ h => h) (Or.inl ⟨by kernel_rfl, fun wS hSw => by
    dsimp only at hSw
    obtain ⟨s0, s1, s2⟩ := hSw
    go_simp⟩) hHeld ?_
  try simp only [Act.put, List.setIfInBounds_toArray, List.set_cons_zero, List.set_cons_succ]
  refine wpAnyH_take (i := 36) (v := .bool false) rfl (by kernel_rfl) (by kernel_rfl) (by kernel_rfl) (fun _ _ _ h => h) (Or.inl ⟨by kernel_rfl, fun wS hSw => by
    dsimp only at hSw
    obtain ⟨s0, s1, s2⟩ := hSw
    go_simp⟩) hHeld ?_
  try simp only [Act.put, List.setIfInBounds_toArray, List.set_cons_zero, List.set_cons_succ]
  refine wpAnyH_ready (rs := [37]) (by kernel_rfl) (by simp) ?_
  refine AllReadyH.cons rfl (fun K hK => ?_) AllReadyH.nil
  go_simp
  refine (when_is false 1 _).mono ?_
  rintro e W ⟨rfl, hW9⟩
  have hW8 := hW9.symm
  clear hW9
  subst hW8
  try dsimp only
  refine hK.out _ _ (HCL.out _ K5) (fun hHeld2 => ?_)
  clear hK K hHeld
  have hHeld := hHeld2
  clear hHeld2
  try simp only [Act.put, List.setIfInBounds_toArray, List.set_cons_zero, List.set_cons_succ]
  refine wpAnyH_ready (rs := [40]) (by kernel_rfl) (by simp) ?_
  refine AllReadyH.cons rfl (fun K hK => ?_) AllReadyH.nil
  go_simp
  refine (when_is false 3 _).mono ?_
  rintro e W ⟨rfl, hW9⟩
  have hW8 := hW9.symm
  clear hW9
  subst hW8
  try dsimp only
  refine hK.out _ _ (HCL.out _ K5) (fun hHeld2 => ?_)
  clear hK K hHeld
  have hHeld := hHeld2
  clear hHeld2
  try simp only [Act.put, List.setIfInBounds_toArray, List.set_cons_zero, List.set_cons_succ]
  refine wpAnyH_ready (rs := [41]) (by kernel_rfl) (by simp) ?_
  refine AllReadyH.cons rfl (fun K hK => ?_) AllReadyH.nil
  go_simp
  refine hK.out _ _ (HCL.out _ (below_next K5 (below_box _ _))) (fun hHeld2 => ?_)
  clear hK K hHeld
  have hHeld := hHeld2
  clear hHeld2
  try simp only [Act.put, List.setIfInBounds_toArray, List.set_cons_zero, List.set_cons_succ]
  refine wpAnyH_ready (rs := [42]) (by kernel_rfl) (by simp) ?_
  refine AllReadyH.cons rfl (fun K hK => ?_) AllReadyH.nil
  go_simp
  refine (first_is (some ⟨w5.heap.size, 0, none⟩) 5 [0, 0, 0, 0, 0] _ (ReadsV.lit w5 #[.int .i64 0, .int .i64 0, .int .i64 0, .int .i64 0, .int .i64 0] 36) (by decide)).mono ?_
  rintro e W ⟨rfl, hW9⟩
  have hW8 := hW9.symm
  clear hW9
  subst hW8
  rw [show firstE [0, 0, 0, 0, 0] = 0 from by decide]
  try dsimp only
  refine hK.out _ _ (HCL.out _ (below_next K5 (below_box _ _))) (fun hHeld2 => ?_)
  clear hK K hHeld
  have hHeld := hHeld2
  clear hHeld2
  try simp only [Act.put, List.setIfInBounds_toArray, List.set_cons_zero, List.set_cons_succ]
  refine wpAnyH_take (i := 43) (oi := { dst := some 2, op := Op.assign (Operand.tmp 64), type := _, pos := _, after := _, guard := _ }) (v := .int .i64 0) rfl (by kernel_rfl) (by kernel_rfl) (by kernel_rfl) (fun _ _ _ h => h) (Or.inl ⟨by kernel_rfl, fun wS hSw => by
    dsimp only at hSw
    obtain ⟨s0, s1, s2⟩ := hSw
    go_simp⟩) hHeld ?_
  try simp only [Act.put, List.setIfInBounds_toArray, List.set_cons_zero, List.set_cons_succ]
  refine wpAnyH_done (by kernel_rfl) ?_ _
  try go_wp2
  go_ret
  exact ⟨by first | kernel_rfl | simp, below_next HB3.out (below_next K5 (below_box _ _))⟩
end Go.Proofs.YtebgejoemlgggaaDoor
