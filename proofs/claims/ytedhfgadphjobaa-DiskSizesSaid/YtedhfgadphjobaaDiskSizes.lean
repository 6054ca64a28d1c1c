/- The law DiskSizes is true for every input: a disk has just as many sectors as it was made of. No condition. -/
import Derived.Test.YtedhfgadphjobaaAwake3
import Derived.Test.YtedhfgadphjobaaOpen
namespace Go.Proofs.Ytedhfgadphjobaa
open Go.ChangeShapes Go.WideShapes Go.ChangeAt Go.RowKit Go.Sort
set_option linter.unusedVariables false
set_option linter.unusedSimpArgs false
set_option maxRecDepth 100000

theorem noughts_bytes : Bytes noughts := fun x hx => by
  have := List.eq_of_mem_replicate hx
  omega

set_option maxHeartbeats 1600000 in
theorem diskSizes_walk (n : Int) (w : World) : Calls Try.prog 4 #[.int .i64 n] w fun e w' => e = .returned (.bool true) ∧ Below w.heap.size w w' := by
  by_cases h1 : n < 1
  · go_enter Try.func4, Try.ntmps4
    go_wp2_with fail
    refine (awake3_true w).mono ?_
    rintro e w1 ⟨rfl, b1⟩
    go_wp2_with fail
    refine (dnew_no n w1 (.inl h1)).mono ?_
    rintro e w2 ⟨rfl, rfl⟩
    go_wp2
    go_ret
    exact ⟨rfl, b1⟩
  by_cases h2 : 65536 < n
  · go_enter Try.func4, Try.ntmps4
    go_wp2_with fail
    refine (awake3_true w).mono ?_
    rintro e w1 ⟨rfl, b1⟩
    go_wp2_with fail
    refine (dnew_no n w1 (.inr h2)).mono ?_
    rintro e w2 ⟨rfl, rfl⟩
    go_wp2
    go_ret
    exact ⟨rfl, b1⟩
  obtain ⟨m, rfl⟩ := Int.eq_ofNat_of_zero_le (show 0 ≤ n by omega)
  have hm1 : 1 ≤ m := by omega
  have hm2 : m ≤ 65536 := by omega
  have hl : (newD m).secs.length = m := by simp [newD]
  have HR : Hid (refI (newD m) (m - 1) = 0 ∧ refI (newD m) m = 1 ∧ writeE (newD m) m = 1) := by
    have e1 : refI (newD m) (m - 1) = 0 := by
      unfold refI
      rw [hl, if_neg (by omega)]
      rfl
    have e2 : refI (newD m) m = 1 := by
      unfold refI
      rw [hl, if_pos (by omega)]
    exact ⟨e1, e2, by unfold writeE; rw [e2]; rfl⟩
  have HS : Hid ((readS (newD m) (m - 1)).length = 128 ∧ (readS (newD m) m).length = 128) := by
    have key : ∀ a, (readS (newD m) a).length = 128 := by
      intro a
      unfold readS
      split
      · rfl
      · show (readL [] _ _).length = 128
        unfold readL
        rw [List.foldl_nil]
        show ((List.replicate m noughts)[a.toNat]?.getD noughts).length = 128
        rw [List.getElem?_replicate]
        split <;> rfl
    exact ⟨key _, key _⟩
  have HL := Lib.hid hl
  have hn1 : ¬ ((m : Int) < 1) := by omega
  have hn2 : (m : Int) ≤ 65536 := by omega
  clear hl h1 h2
  have hz := zero_sector
  have hbld := build_sector
  go_enter Try.func4, Try.ntmps4
  go_wp2_with fail
  refine (awake3_true w).mono ?_
  rintro e w1 ⟨rfl, b1⟩
  have B1 := Lib.hid b1
  have HB0 := Lib.hid b1.size
  clear b1
  go_wp2_with fail
  refine (dnew_is m w1 hm1 hm2).mono ?_
  rintro e w2 ⟨g, gs, rfl, d2, b2⟩
  have D2 := Lib.hid d2
  have B2 : Hid (Below w.heap.size w w2) := B1.out.trans (b2.mono B1.out.size)
  clear d2 b2 B1
  go_wp2_with fail
  refine (dsize_is D2.out).mono ?_
  rintro e w3 ⟨rfl, rfl⟩
  rw [HL.out]
  go_wp2_with fail
  refine (ddead_is D2.out).mono ?_
  rintro e w3 ⟨rfl, rfl⟩
  rw [show (newD m).dead = false from rfl]
  go_wp2_with fail
  refine (dqueue_is D2.out).mono ?_
  rintro e w3 ⟨gq, rfl, hq1, hq2, b3⟩
  rw [show (newD m).cache.length = 0 from rfl]
  have D3 := Lib.hid (D2.out.more b3)
  have B3 : Hid (Below w.heap.size w w3) := B2.out.trans (b3.mono B2.out.size)
  clear D2 B2 b3 hq1 hq2
  go_wp2_with fail
  refine (ddeeds_is D3.out).mono ?_
  rintro e w4 ⟨rfl, rfl⟩
  rw [show ((newD m).deeds : Int) = 0 from rfl]
  go_wp2_with fail
  refine (dread_is D3.out ((m : Int) - 1)).mono ?_
  rintro e w4 ⟨rfl, b4⟩
  rw [HR.out.1]
  have l1 := HS.out.1
  have l2 := HS.out.2
  generalize readS (newD m) ((m : Int) - 1) = s1 at *
  have D4 := Lib.hid (D3.out.more b4)
  have B4 : Hid (Below w.heap.size w w4) := B3.out.trans (b4.mono B3.out.size)
  clear D3 B3 b4
  have n4 := heap_alloc_new w4 (.cells (cells noughts) 46)
  go_wp2_with (refine wpList_store_sector rfl _ _ rfl w4.heap.size s1 (by go_simp) (by go_simp) l1 _ _ n4 rfl ?_)
  rw [World.setRow_alloc_new]
  have b5 := below_box w4 (.cells (cells s1) 46)
  obtain ⟨w5, hw5⟩ : ∃ w5, w4.alloc (.cells (cells s1) 46) = w5 := ⟨_, rfl⟩
  rw [hw5] at b5 ⊢
  have D5 := Lib.hid (D4.out.more b5)
  have B5 : Hid (Below w.heap.size w w5) := B4.out.trans (b5.mono B4.out.size)
  clear D4 B4 b5 n4 hw5
  refine (dread_is D5.out (m : Int)).mono ?_
  rintro e w6 ⟨rfl, b6⟩
  rw [HR.out.2.1]
  generalize readS (newD m) (m : Int) = s2 at *
  have D6 := Lib.hid (D5.out.more b6)
  have B6 : Hid (Below w.heap.size w w6) := B5.out.trans (b6.mono B5.out.size)
  clear D5 B5 b6
  have n6 := heap_alloc_new w6 (.cells (cells noughts) 46)
  go_wp2_with (refine wpList_store_sector rfl _ _ rfl w6.heap.size s2 (by go_simp) (by go_simp) l2 _ _ n6 rfl ?_)
  rw [World.setRow_alloc_new]
  have b7 := below_box w6 (.cells (cells s2) 46)
  obtain ⟨w7, hw7⟩ : ∃ w7, w6.alloc (.cells (cells s2) 46) = w7 := ⟨_, rfl⟩
  rw [hw7] at b7 ⊢
  have D7 := Lib.hid (D6.out.more b7)
  have B7 : Hid (Below w.heap.size w w7) := B6.out.trans (b7.mono B6.out.size)
  clear D6 B6 b7 n6 hw7
  have HB1 : Hid (w1.heap.size ≤ w7.heap.size) := by
    have := D7.out.2.2.2.2.1
    have := (Array.getElem?_eq_some_iff.1 D7.out.1).1
    show _ ≤ _
    omega
  refine (dwrite_is D7.out (show 0 < 1000000 by decide) (show 0 < 1000000 by decide) (m : Int) noughts rfl noughts_bytes).mono ?_
  rintro e w8 ⟨rfl, _, k8⟩
  have B8 : Hid (Below w.heap.size w w8) := B7.out.trans ((k8.below D7.out HB1.out).mono HB0.out)
  rw [HR.out.2.2]
  clear k8 D7 B7
  go_wp2
  go_ret
  exact ⟨rfl, B8.out⟩
set_option maxRecDepth 100000 in
theorem diskSizes_lifted (os : Os) (started : os.Started) (H : Type) (enc : TypeId × Value → H) :
    ReturnsInHanded {} Try.checked os 4 .any (Rows.diskSizesSpec.pre6 enc Try.prog Try.f4 Rows.diskSizesRow.domain false) (Rows.diskSizesSpec.post enc Try.prog Try.f4 false true false false) :=
  law_lifted (s := Rows.diskSizesSpec) started Try.func4 (by kernel_rfl) rfl (fun ds hd => by
        match ds, hd with
        | [_], _ => rfl) rfl
      (of_decide_eq_true (by kernel_rfl))
      (ChangeSpec.witness6 (enc := enc) (C := Try.checked) false ⟨#[], #[.int .i64 0], []⟩ 8 (by kernel_rfl) (by kernel_rfl) (by kernel_rfl) (by kernel_rfl))
      (fun W base args ds ps hval hA hsz => by
        rw [Try.params4] at hA hval hsz
        obtain ⟨v0, vs0, d0, ds0, p0, q0, hargs, rfl, rfl, h0, r0⟩ := trodAll_cons hA
        obtain ⟨rfl, rfl, rfl⟩ := trodAll_nil r0
        obtain rfl : args = #[v0] := by cases args; simp_all
        obtain ⟨n, rfl, rfl, rfl, wf⟩ := open_int Try.underlying3 (hval 0 3 v0 rfl rfl) h0
        exact diskSizes_walk n W)

theorem diskSizes_holds : Rows.DiskSizesSaid :=
  OpenClaim.holds_of_wide 4 Try.f4 rfl rfl rfl rfl rfl rfl rfl ⟨rfl, rfl, rfl, rfl, rfl⟩ rfl rfl rfl rfl rfl (by kernel_rfl) Try.func4 (by kernel_rfl)
    (of_decide_eq_true (by kernel_rfl)) (by unfold Func.isWrapper; first | (rw [if_pos (by decide +kernel)]; kernel_rfl) | (rw [if_neg (by decide +kernel)]; exact ⟨rfl, rfl⟩))
    (fun os started H enc _ => diskSizes_lifted os started H enc)
#print axioms diskSizes_holds
end Go.Proofs.Ytedhfgadphjobaa
