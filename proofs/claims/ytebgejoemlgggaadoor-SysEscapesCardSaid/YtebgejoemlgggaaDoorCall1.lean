/- The shape of a call, its name. -/
import Derived.Test.YtebgejoemlgggaaDoorRow6
namespace Go.Proofs.YtebgejoemlgggaaDoor
open Go.RowKit Go.Sort
set_option linter.unusedVariables false
set_option linter.unusedSimpArgs false
set_option maxRecDepth 100000

theorem shapeN_no {op : Int} (h : ¬ (0 ≤ op ∧ op < 30)) : shapeN op = ([], []) := by unfold shapeN; rw [if_neg h]
theorem field_shp (x1 x2 : ByteArray) : (∀ W, (Instr.field 85 (.agg #[.string x1, .string x2]) 0).run Tryd.prog W = .ok (.string x1) W) := fun W => by kernel_rfl
theorem field_shp2 (x1 x2 : ByteArray) : (∀ W, (Instr.field 85 (.agg #[.string x1, .string x2]) 1).run Tryd.prog W = .ok (.string x2) W) := fun W => by kernel_rfl
set_option maxHeartbeats 800000 in
theorem shapeOf_is (op : Int) (hI : I64 op) (w : World) (hv : VarsAt w) : Calls Tryd.prog 45 #[.int .i64 op] w fun e w' => e = .returned (.agg #[strB (shapeN op).1, strB (shapeN op).2]) ∧ Below w.heap.size w w' := by
  have HV := Lib.hid hv
  have hb := below_box w (.cells #[.string ⟨#[]⟩, .string ⟨#[]⟩] 85)
  have HB := Lib.hid hb
  clear hv hb
  by_cases h : 0 ≤ op ∧ op < 30
  · obtain ⟨i, rfl⟩ := Int.eq_ofNat_of_zero_le h.1
    obtain ⟨p, hp, c0, c1⟩ := (HV.out.below HB.out).shape i (by omega)
    have HE : Hid (shapeN (i : Int) = p) := Lib.hid (by unfold shapeN; rw [if_pos h, Int.toNat_natCast, hp]; rfl)
    have g0 : ¬ (i : Int) < 0 := by omega
    have g1 : ¬ (30 : Int) ≤ (i : Int) := by omega
    have g2 : (i : Int) < 30 := by omega
    have g3 : (0 : Int) ≤ (i : Int) := by omega
    obtain ⟨q1, q2⟩ := p
    dsimp only at c0 c1
    have HE2 := Lib.hid (And.intro (congrArg (fun x => strB x.1) HE.out) (congrArg (fun x => strB x.2) HE.out))
    unfold strB at c0 c1
    have HE3 : Hid (strB q1 = .string ⟨q1.toArray⟩ ∧ strB q2 = .string ⟨q2.toArray⟩) := Lib.hid ⟨rfl, rfl⟩
    obtain ⟨x1, hx1⟩ : ∃ x, (⟨q1.toArray⟩ : ByteArray) = x := ⟨_, rfl⟩
    obtain ⟨x2, hx2⟩ : ∃ x, (⟨q2.toArray⟩ : ByteArray) = x := ⟨_, rfl⟩
    rw [hx1] at c0 HE3
    rw [hx2] at c1 HE3
    clear hp h hI hx1 hx2
    go_enter Tryd.func45, Tryd.ntmps45
    go_wp2
    try (simp only [Exit.inBlock, Exit.then])
    refine bodyPost_ret (results_shp rfl _ _ w.heap.size (cs := [.string x1, .string x2]) rfl rfl (heap_alloc_new w _)) rfl ?_
    exact ⟨by rw [HE.out]; dsimp only; rw [HE3.out.1, HE3.out.2], below_box w _⟩
  · have HE := Lib.hid (shapeN_no h)
    go_enter Tryd.func45, Tryd.ntmps45
    by_cases h0 : op < 0
    · go_wp2
      try (simp only [Exit.inBlock, Exit.then])
      refine bodyPost_ret (results_shp rfl _ _ w.heap.size (cs := [.string ⟨#[]⟩, .string ⟨#[]⟩]) rfl rfl (heap_alloc_new w _)) rfl ?_
      exact ⟨by rw [HE.out]; rfl, HB.out⟩
    · have h1 : (30 : Int) ≤ op := by omega
      go_wp2
      try (simp only [Exit.inBlock, Exit.then])
      refine bodyPost_ret (results_shp rfl _ _ w.heap.size (cs := [.string ⟨#[]⟩, .string ⟨#[]⟩]) rfl rfl (heap_alloc_new w _)) rfl ?_
      exact ⟨by rw [HE.out]; rfl, HB.out⟩
set_option maxHeartbeats 400000 in
theorem name_is (op : Int) (hI : I64 op) (w : World) (hv : VarsAt w) : Calls Tryd.prog 19 #[.int .i64 op] w fun e w' => e = .returned (strB (shapeN op).1) ∧ Below w.heap.size w w' := by
  have HS := Lib.hid (shapeOf_is op hI w hv)
  clear hv
  go_enter Tryd.func19, Tryd.ntmps19
  go_wp2_with fail
  refine HS.out.mono ?_
  rintro e w1 ⟨rfl, b1⟩
  obtain ⟨x1, hx1⟩ : ∃ x, strB (shapeN op).1 = .string x := ⟨_, rfl⟩
  obtain ⟨x2, hx2⟩ : ∃ x, strB (shapeN op).2 = .string x := ⟨_, rfl⟩
  rw [hx1, hx2]
  have H1 := Lib.hid hx1
  clear hx1 hx2
  have hf := field_shp x1 x2
  go_wp2
  go_ret
  exact ⟨by rw [H1.out]; rfl, b1⟩
end Go.Proofs.YtebgejoemlgggaaDoor
