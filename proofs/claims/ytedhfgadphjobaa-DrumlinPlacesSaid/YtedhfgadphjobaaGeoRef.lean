/- The document's own geometry, by its walks: the counts. -/
import Derived.Test.YtedhfgadphjobaaGeo2
namespace Go.Proofs.Ytedhfgadphjobaa
open Go.RowKit Go.Sort
set_option linter.unusedVariables false
set_option maxRecDepth 100000

theorem rup_any (n k : Int) (w : World) (h0 : 0 ≤ n) (hn : n ≤ 1000) (h1 : 1 ≤ k) (hk : k ≤ 1000) : Calls Try.prog 122 #[.int .i64 n, .int .i64 k] w fun e w' => e = .returned (.int .i64 (upI n k)) ∧ w = w' := by
  go_enter Try.func122, Try.ntmps122
  go_wp2
  go_loop [5] (fun j => ∃ m : Nat, j = .int .i64 m ∧ (m : Int) ≤ n ∧ (m : Int) * k ≤ n + k ∧ ((m : Int) = 0 ∨ ((m : Int) - 1) * k < n)) (fun j => n.toNat - (intOf j).toNat)
  case atStart => exact ⟨0, rfl, by omega, by simp; omega, .inl rfl⟩
  case round =>
    obtain ⟨m, rfl, hm, hmk, hor⟩ := hrel
    have hp : 0 ≤ (m : Int) * k := Int.mul_nonneg (by omega) (by omega)
    by_cases hlt : (m : Int) * k < n
    · have hm1 : (m : Int) * 1 ≤ (m : Int) * k := Int.mul_le_mul_of_nonneg_left (by omega) (by omega)
      have hs : ((m + 1 : Nat) : Int) * k = (m : Int) * k + k := by rw [Int.natCast_add, Int.add_mul]; simp
      have HS := Lib.hid hs
      have HO := Lib.hid hor
      clear hs hor
      go_wp2
      go_round
      case rel => exact ⟨m + 1, by go_num, by omega, by rw [HS.out]; omega, .inr (by rw [show ((m + 1 : Nat) : Int) - 1 = m by omega]; exact hlt)⟩
      case measure => simp [intOf]; omega
    · have he := upI_end h1 (by omega) hor h0
      have HE := Lib.hid he
      clear he hor
      go_wp2
      go_ret
      exact ⟨ret_int HE.out.symm, rfl⟩

theorem rcap_is {s g i : Int} (w : World) (h : bnd s g i) : Calls Try.prog 102 #[.agg #[.int .i64 s, .int .i64 g, .int .i64 i]] w fun e w' => e = .returned (.int .i64 (8 * g)) ∧ Below w.heap.size w w' := by
  have hb := below_box w (.cells #[.int .i64 s, .int .i64 g, .int .i64 i] 66)
  unfold bnd at h
  go_enter Try.func102, Try.ntmps102
  go_wp2
  go_ret
  exact ⟨rfl, hb⟩
theorem rchunks_is {s g i : Int} (w : World) (h : bnd s g i) : Calls Try.prog 123 #[.agg #[.int .i64 s, .int .i64 g, .int .i64 i]] w fun e w' => e = .returned (.int .i64 (chunksI i)) ∧ Below w.heap.size w w' := by
  have hb := below_box w (.cells #[.int .i64 s, .int .i64 g, .int .i64 i] 66)
  have he : upI i 10 = chunksI i := by unfold upI chunksI; congr 1; omega
  have HE := Lib.hid he
  clear he
  unfold bnd at h
  go_enter Try.func123, Try.ntmps123
  go_wp2_with (go_at_call 122; refine (rup_any _ _ _ (by omega) (by omega) (by decide) (by decide)).mono ?_; rintro e w' ⟨rfl, rfl⟩)
  go_ret
  exact ⟨by rw [HE.out]; rfl, hb⟩
theorem rmost_is {s g i : Int} (w : World) (h : bnd s g i) : Calls Try.prog 101 #[.agg #[.int .i64 s, .int .i64 g, .int .i64 i]] w fun e w' => e = .returned (.int .i64 (mostI s g i)) ∧ Below w.heap.size w w' := by
  have hb := below_box w (.cells #[.int .i64 s, .int .i64 g, .int .i64 i] 66)
  obtain ⟨hg, c0, c1, c2⟩ := box3_new w (.int .i64 s) (.int .i64 g) (.int .i64 i) 66
  have H := Lib.hid h
  have hc := chunks_bd h
  have hxb := xI_bd h
  unfold bnd at h
  have hw : IntKind.i64.wrap (s - 6 - 2 * upI (chunksI i) (8 * g)) = s - 6 - 2 * xI g i := IntWalk.i64_in _ (by have : upI (chunksI i) (8 * g) = xI g i := rfl; omega)
  have hw1 : IntKind.i64.wrap (s - 6) = s - 6 := IntWalk.i64_in _ (by omega)
  have hw2 : IntKind.i64.wrap (2 * upI (chunksI i) (8 * g)) = 2 * upI (chunksI i) (8 * g) := IntWalk.i64_in _ (by have : upI (chunksI i) (8 * g) = xI g i := rfl; omega)
  go_enter Try.func101, Try.ntmps101
  go_wp2_with fail
  generalize w.alloc (.cells #[.int .i64 s, .int .i64 g, .int .i64 i] 66) = W at *
  have k0 := cell_regrown c0
  have k1 := cell_regrown c1
  have k2 := cell_regrown c2
  refine wp_region_quiet_below (by kernel_rfl) (by kernel_rfl) ?_
  repeat (go_big_quiet_step (first
    | (go_at_call 123; exact Calls.regrown_of (rchunks_is _ H.out))
    | (go_at_call 102; exact Calls.regrown_of (rcap_is _ H.out))
    | (go_at_call 122; exact regrown_same (rup_any _ _ _ (by omega) (by omega) (by omega) (by omega)))))
  refine wpQuiet_nil (regrown_name fun w2 b3 => ?_)
  obtain ⟨x, hxe⟩ : ∃ x, xI g i = x := ⟨_, rfl⟩
  rw [hxe] at hxb ⊢
  have d0 := (b3.cell (p := ⟨w.heap.size, 0, none⟩) hg).trans c0
  have b4 := below_next hb b3
  clear c0 c1 c2 k0 k1 k2 hw hw1 hw2 b3 hb
  by_cases hn : s - 6 - 2 * x < 0
  · have hm : mostI s g i = 0 := by unfold mostI; rw [hxe, if_pos hn]
    have HM := Lib.hid hm
    clear hm hxe
    go_wp2
    go_ret
    exact ⟨ret_int HM.out.symm, b4⟩
  · have hm : mostI s g i = (s - 6 - 2 * x) / 2 := by unfold mostI; rw [hxe, if_neg hn]
    have HM := Lib.hid hm
    clear hm hxe
    go_wp2
    go_ret
    exact ⟨ret_int HM.out.symm, b4⟩

theorem rroom_is {s g i : Int} (w : World) (h : bnd s g i) : Calls Try.prog 70 #[.agg #[.int .i64 s, .int .i64 g, .int .i64 i]] w fun e w' => e = .returned (.int .i64 (roomI s g i)) ∧ Below w.heap.size w w' := by
  have hb := below_box w (.cells #[.int .i64 s, .int .i64 g, .int .i64 i] 66)
  obtain ⟨hg, c0, c1, c2⟩ := box3_new w (.int .i64 s) (.int .i64 g) (.int .i64 i) 66
  have H := Lib.hid h
  have hm := mostI_bd h
  have hr : mostI s g i * (8 * g) = roomI s g i := rfl
  have hrb := room_bd h
  have hw : wrap64 (mostI s g i * (8 * g)) = roomI s g i := by rw [IntWalk.wrap64_in _ (by rw [hr]; omega), hr]
  have HW := Lib.hid hw
  clear h hr hrb hw
  go_enter Try.func70, Try.ntmps70
  go_wp2_with fail
  generalize w.alloc (.cells #[.int .i64 s, .int .i64 g, .int .i64 i] 66) = W at *
  have k0 := cell_regrown c0
  have k1 := cell_regrown c1
  have k2 := cell_regrown c2
  refine wp_region_quiet_below (by kernel_rfl) (by kernel_rfl) ?_
  repeat (go_big_quiet_step (first
    | (go_at_call 101; exact Calls.regrown_of (rmost_is _ H.out))
    | (go_at_call 102; exact Calls.regrown_of (rcap_is _ H.out))))
  refine wpQuiet_nil (regrown_name fun w2 b3 => ?_)
  go_wp2
  go_ret
  exact ⟨ret_int HW.out, below_next hb b3⟩

theorem rmay_any (s g i : Int) (w : World) : Calls Try.prog 33 #[.agg #[.int .i64 s, .int .i64 g, .int .i64 i]] w fun e w' => e = .returned (.bool (mayB s g i)) ∧ Below w.heap.size w w' := by
  have hb := below_box w (.cells #[.int .i64 s, .int .i64 g, .int .i64 i] 66)
  by_cases h : bnd s g i
  · have H := Lib.hid h
    have hrb := room_bd h
    have hm := mayB_room h
    unfold bnd at h
    have HM := Lib.hid hm
    clear hm
    go_enter Try.func33, Try.ntmps33
    go_wp2_with (go_at_call 70; refine (rroom_is _ H.out).mono ?_; rintro e w' ⟨rfl, b1⟩)
    go_ret
    exact ⟨ret_bool HM.out.symm, below_next hb b1⟩
  · have HM : Hid (mayB s g i = false) := mayB_no h
    unfold bnd at h
    by_cases h1 : 8 ≤ s
    · by_cases h2 : s ≤ 200
      · by_cases h3 : 1 ≤ g
        · by_cases h4 : g ≤ 32
          · by_cases h5 : 2 ≤ i
            · have h6 : ¬ i ≤ 200 := by omega
              clear h
              go_enter Try.func33, Try.ntmps33
              go_wp2
              go_ret
              exact ⟨by rw [HM.out]; rfl, hb⟩
            · clear h
              go_enter Try.func33, Try.ntmps33
              go_wp2
              go_ret
              exact ⟨by rw [HM.out]; rfl, hb⟩
          · clear h
            go_enter Try.func33, Try.ntmps33
            go_wp2
            go_ret
            exact ⟨by rw [HM.out]; rfl, hb⟩
        · clear h
          go_enter Try.func33, Try.ntmps33
          go_wp2
          go_ret
          exact ⟨by rw [HM.out]; rfl, hb⟩
      · clear h
        go_enter Try.func33, Try.ntmps33
        go_wp2
        go_ret
        exact ⟨by rw [HM.out]; rfl, hb⟩
    · clear h
      go_enter Try.func33, Try.ntmps33
      go_wp2
      go_ret
      exact ⟨by rw [HM.out]; rfl, hb⟩
theorem rmay_is (b : Bool) {s g i : Int} (w : World) (h : mayB s g i = b) : Calls Try.prog 33 #[.agg #[.int .i64 s, .int .i64 g, .int .i64 i]] w fun e w' => e = .returned (.bool b) ∧ Below w.heap.size w w' := by
  rw [← h]; exact rmay_any s g i w

theorem own_any (s g i : Int) (w : World) : Calls Try.prog 34 #[.agg #[.int .i64 s, .int .i64 g, .int .i64 i]] w fun e w' => e = .returned (.agg #[.int .i64 s, .int .i64 g, .int .i64 i]) ∧ Below w.heap.size w w' := by
  have hb := below_box w (.cells #[.int .i64 s, .int .i64 g, .int .i64 i] 66)
  go_enter Try.func34, Try.ntmps34
  go_wp2
  refine bodyPost_ret (v := .agg #[.int .i64 s, .int .i64 g, .int .i64 i]) (by simp [results, Try.results34, go_sem]) rfl ⟨rfl, ?_⟩
  exact hb.alloc hb.size _
end Go.Proofs.Ytedhfgadphjobaa
