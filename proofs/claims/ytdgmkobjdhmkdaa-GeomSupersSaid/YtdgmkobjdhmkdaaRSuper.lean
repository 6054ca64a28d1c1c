/- The superblock, by the document's own walks. -/
import Derived.Test.YtdgmkobjdhmkdaaGRead
import Derived.Test.YtdgmkobjdhmkdaaGeoRef
import Derived.Test.YtdgmkobjdhmkdaaROpen
import Derived.Test.YtdgmkobjdhmkdaaStep
namespace Go.Proofs.Ytdgmkobjdhmkdaa
open Go.RowKit Go.Sort
set_option linter.unusedVariables false
set_option maxRecDepth 100000

set_option maxHeartbeats 1600000 in
theorem rsuper_is {s g i : Int} (w : World) (h : bnd s g i) : Calls Try.prog 55 #[.agg #[.int .i64 s, .int .i64 g, .int .i64 i]] w fun e w' => e = .returned (.agg (cells (superL s.toNat g.toNat i.toNat))) ∧ Below w.heap.size w w' := by
  have hz := zero_full
  have hbd := h
  unfold bnd at hbd
  have hx0 := (box3_new w (.int .i64 s) (.int .i64 g) (.int .i64 i) 66).below ((below_box _ (.cells (cells noughts) 45)))
  have hn0 := heap_alloc2_new w (.cells #[.int .i64 s, .int .i64 g, .int .i64 i] 66) (.cells (cells noughts) 45)
  have hb0 := (below_box w (.cells #[.int .i64 s, .int .i64 g, .int .i64 i] 66)).alloc (by simp) (.cells (cells noughts) 45)
  obtain ⟨W, hW⟩ : ∃ W, (w.alloc (.cells #[.int .i64 s, .int .i64 g, .int .i64 i] 66)).alloc (.cells (cells noughts) 45) = W := ⟨_, rfl⟩
  rw [hW] at hx0 hb0 hn0
  have HN := Lib.hid hn0
  have hs1 : w.heap.size + 1 < W.heap.size := (Array.getElem?_eq_some_iff.1 hn0).1
  obtain ⟨sn, rfl⟩ := Int.eq_ofNat_of_zero_le (show 0 ≤ s by omega)
  obtain ⟨gn, rfl⟩ := Int.eq_ofNat_of_zero_le (show 0 ≤ g by omega)
  obtain ⟨jn, rfl⟩ := Int.eq_ofNat_of_zero_le (show 0 ≤ i by omega)
  simp only [Int.toNat_natCast]
  have hk1 : (sn : Int) % 18446744073709551616 = sn := by omega
  have hk2 : (gn : Int) % 18446744073709551616 = gn := by omega
  have hk3 : (jn : Int) % 18446744073709551616 = jn := by omega
  have hwk1 : IntKind.u64.wrap (sn : Int) = sn := by rw [u64_wrap_id _ (by omega) (by omega)]
  have hwk2 : IntKind.u64.wrap (gn : Int) = gn := by rw [u64_wrap_id _ (by omega) (by omega)]
  have box : ∀ w', Below W.heap.size W w' → Box3 w' w.heap.size (.int .i64 sn) (.int .i64 gn) (.int .i64 jn) := fun w' b => hx0.below b
  have BOX := Lib.hid box
  obtain ⟨hg, c0, c1, c2⟩ := hx0
  clear hn0 box
  go_enter Try.func55, Try.ntmps55
  go_wp2_with fail
  have H0 := (Below.refl W.heap.size W).drew
  go_region_held3 (fun w' => w'.cell? ⟨w.heap.size, 0, none⟩ = some (.int .i64 sn) ∧ w'.cell? ⟨w.heap.size, 1, none⟩ = some (.int .i64 gn))
    (first | exact ⟨(BOX.out _ H0).2.1, (BOX.out _ H0).2.2.1⟩ | exact ⟨(BOX.out _ k5).2.1, (BOX.out _ k5).2.2.1⟩ | exact ⟨(BOX.out _ k6).2.1, (BOX.out _ k6).2.2.1⟩ | exact ⟨(BOX.out _ k7).2.1, (BOX.out _ k7).2.2.1⟩)
    ((first
      | (go_at_call_of 94 (Value.int IntKind.u64 (sn : Int)); refine (low_any sn 4 _ (by decide) (by omega)).mono ?_; rintro e w5 ⟨v5, rfl, o5, b5⟩; have k5 := below_next H0 b5)
      | (go_at_call_of 94 (Value.int IntKind.u64 (gn : Int)); refine (low_any gn 4 _ (by decide) (by omega)).mono ?_; rintro e w6 ⟨v6, rfl, o6, b6⟩; have k6 := below_next k5 b6; have o56 : Owns W.heap.size w6 v5 (low sn 4) := o5.below b6; obtain ⟨a6, c6, rfl, hrd6, _, _⟩ := o6.reads; rw [low_length] at hrd6 ⊢; obtain ⟨g6, f6, rfl⟩ := hrd6.some_of (by decide))
      | (refine step_append_bytes (by rfl) _ _ (by rfl) W.heap.size v5 (low sn 4) (by rfl) o56 g6 f6 4 c6 (by rfl) (low gn 4) hrd6 (by decide) (by rw [low_length]; decide) k6.size ?_; intro v7 w7 o7 g7; have k7 : Below W.heap.size W w7 := k6.grown g7 k6.size (fun j hj => o56.lt j hj))))
  rename_i hHeld
  clear hHeld
  obtain ⟨hg7, d0, d1, d2⟩ := BOX.out _ k7
  have hs7 : W.heap.size ≤ w7.heap.size := k7.size
  clear o5 b5 k5 b6 k6 o56 o6 hrd6 g7 hW c0 c1 c2 H0 hwk1 hwk2 hk1 hk2 hg
  go_wp2_with fail
  refine (low_any jn 4 _ (by decide) (by omega)).mono ?_
  rintro e w8 ⟨v8, rfl, o8, b8⟩
  have k8 := below_next k7 b8
  have o78 : Owns W.heap.size w8 v7 (low sn 4 ++ low gn 4) := o7.below b8
  obtain ⟨a8, c8, rfl, hrd8, _, _⟩ := o8.reads
  have hl8 : (low jn 4).length ≤ 4 := by rw [low_length]; decide
  have hl78 : (low sn 4 ++ low gn 4).length = 8 := by simp [low_length]
  have hs8 : W.heap.size ≤ w8.heap.size := k8.size
  have HL78 := Lib.hid hl78
  clear o8 b8 k7 o7 d0 d1 d2 hg7 hl78
  go_wp2_with (at_builtin; refine wpList_append_bytes rfl _ _ rfl W.heap.size v7 (low sn 4 ++ low gn 4) rfl o78 _ _ _ rfl (low jn 4) hrd8 (by rw [HL78.out]; omega) hs8 ?_; intro v9 w9 o9 g9)
  have k9 : Below W.heap.size W w9 := k8.grown g9 hs8 (fun j hj => o78.lt j hj)
  obtain ⟨a9, c9, rfl, hrd9, _, _⟩ := o9.reads
  have hsb : low sn 4 ++ low gn 4 ++ low jn 4 = superB sn gn jn := rfl
  rw [hsb] at hrd9 ⊢
  have hl9 := superB_length sn gn jn
  rw [hl9] at hrd9 ⊢
  clear o78 hrd8 k8 g9 o9 hs8 hs7 hsb hl9 hl8 HL78
  have hbf := below_next hb0 k9
  have hn9 : Hid (w9.heap[w.heap.size + 1]? = some (.cells (cells noughts) 45 (0, 0))) := by show _ = _; rw [k9.block _ hs1]; exact HN.out
  have hs9 : w.heap.size + 1 < w9.heap.size := Nat.lt_of_lt_of_le hs1 k9.size
  clear k9 hb0 HN BOX
  refine (rmake_ok 1 (superB sn gn jn) _ _ _ _ hrd9 (by decide) (by decide) (by decide)).mono ?_
  rintro e w10 ⟨rfl, b10⟩
  obtain ⟨L, hL⟩ : ∃ L, superL sn gn jn = L := ⟨_, rfl⟩
  have hSL : L.length = 128 := by rw [← hL]; exact superL_length _ _ _
  rw [show sealL 1 (superB sn gn jn) = L from hL]
  have HL := Lib.hid hL
  have HSL := Lib.hid hSL
  have hbf4 := below_next hbf b10
  have hn4 : (w10.alloc (.cells (cells L) 45)).heap[w.heap.size + 1]? = some (.cells (cells noughts) 45 (0, 0)) := by
    rw [Below.heap_alloc _ _ _ (Nat.lt_of_lt_of_le hs9 b10.size), b10.block _ hs9]; exact hn9.out
  have Hn4 := Lib.hid hn4
  have hbf5 := hbf4.alloc hbf4.size (.cells (cells L) 45)
  have HC5 := Lib.hid (block_cells HSL.out (heap_alloc_new w10 (.cells (cells L) 45)))
  clear hL hSL hn4 hbf b10 hbf4 hrd9
  go_wp2_with (first | (refine wpList_store_full rfl (.tmp 4) (.tmp 23) rfl w10.heap.size L rfl rfl HSL.out _ _ (heap_alloc_new w10 _) rfl ?_; rw [World.setRow_alloc_new]) | (refine wpList_load_full rfl (.tmp 4) rfl w10.heap.size 0 L rfl HSL.out HC5.out ?_) | (refine wpList_store_full rfl (.tmp 2) (.tmp 25) rfl (w.heap.size + 1) L rfl rfl HSL.out _ _ Hn4.out rfl ?_))
  exact bodyPost_ret (results_full rfl _ _ (w.heap.size + 1) L _ _ rfl (setRow_heap _ _ _ _ _ _ Hn4.out) HSL.out) rfl ⟨by rw [HL.out], below_setRow hbf5 (by omega) _⟩
theorem rsuper_nat {s g i : Nat} (w : World) (h : bnd s g i) : Calls Try.prog 55 #[.agg #[.int .i64 s, .int .i64 g, .int .i64 i]] w fun e w' => e = .returned (.agg (cells (superL s g i))) ∧ Below w.heap.size w w' := by
  have := rsuper_is w h
  simpa only [Int.toNat_natCast] using this
end Go.Proofs.Ytdgmkobjdhmkdaa
