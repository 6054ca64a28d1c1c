/- slices.Repeat of one number, a few times. -/
import Derived.Test.YtbpklbicbeckdaaGdbhjonfa
import Derived.Laws.CopyOwn
import Derived.Deep.RegionHeld
import Derived.Deep.RegionLaw
namespace Go.Proofs.Ytbpklbicbeckdaa
open Go.RowKit Go.Sort
set_option linter.unusedVariables false
set_option linter.unusedSimpArgs false
set_option maxRecDepth 100000

theorem sixteen {k : Nat} (h1 : 1 ≤ k) (h2 : k ≤ 16) : k = 1 ∨ k = 2 ∨ k = 3 ∨ k = 4 ∨ k = 5 ∨ k = 6 ∨ k = 7 ∨ k = 8 ∨ k = 9 ∨ k = 10 ∨ k = 11 ∨ k = 12 ∨ k = 13 ∨ k = 14 ∨ k = 15 ∨ k = 16 := by omega
set_option maxHeartbeats 2000000 in
theorem mul64_is (k : Nat) (h1 : 1 ≤ k) (h2 : k ≤ 16) (w : World) : Calls Try.prog 90 #[.int .u64 1, .int .u64 (k : Int)] w fun e w' => e = .returned (.tuple #[.int .u64 0, .int .u64 (k : Int)]) ∧ w = w' := by
  rcases sixteen h1 h2 with rfl | rfl | rfl | rfl | rfl | rfl | rfl | rfl | rfl | rfl | rfl | rfl | rfl | rfl | rfl | rfl <;>
  · go_enter Try.func90, Try.ntmps90
    go_wp2
    go_ret2
    exact ⟨rfl, rfl⟩
theorem bmul_is (k : Nat) (h1 : 1 ≤ k) (h2 : k ≤ 16) (w : World) : Calls Try.prog 86 #[.int .u64 1, .int .u64 (k : Int)] w fun e w' => e = .returned (.tuple #[.int .u64 0, .int .u64 (k : Int)]) ∧ w = w' := by
  have H := Lib.hid (mul64_is k h1 h2 w)
  go_enter Try.func86, Try.ntmps86
  go_wp2_with fail
  refine H.out.mono ?_
  rintro e w' ⟨rfl, rfl⟩
  go_wp2
  go_ret2
  exact ⟨rfl, rfl⟩
def oneV : Value := .int .i64 (-1)
def repL (k n : Nat) : List Value := List.replicate n oneV ++ List.replicate (k - n) (.int .i64 0)
theorem repL_length {k n : Nat} (h : n ≤ k) : (repL k n).length = k := by unfold repL; simp; omega
theorem repL_full (k : Nat) : repL k k = List.replicate k oneV := by unfold repL; simp
theorem repL_one {k n : Nat} (h : n ≤ k) : ∀ v ∈ repL k n, v.oneCell' = true := by
  intro v hv
  unfold repL at hv
  rcases List.mem_append.1 hv with hv | hv <;> (rw [List.eq_of_mem_replicate hv]; rfl)
theorem splice_rep {k n m : Nat} (h : n + m ≤ k) : splice (repL k n) n (List.replicate m oneV) = repL k (n + m) := by
  unfold splice repL
  rw [List.take_left' (by simp), List.length_replicate, List.drop_append, List.drop_of_length_le (by simp), List.length_replicate, List.nil_append, List.drop_replicate, ← List.append_assoc, List.replicate_append_replicate]
  congr 2
  omega
theorem made_zeros (k : Nat) : madeCells #[Value.int .i64 0] (k * 1) = (repL k 0).toArray := by
  rw [Nat.mul_one]
  apply Array.toList_inj.1
  show (madeCells #[Value.int .i64 0] k).toList = repL k 0
  apply List.ext_getElem?
  intro i
  rw [Array.getElem?_toList]
  have e : (repL k 0)[i]? = if i < k then some (.int .i64 0) else none := by
    unfold repL
    rw [List.replicate_zero, List.nil_append, Nat.sub_zero, List.getElem?_replicate]
  rw [e]
  unfold madeCells
  rw [Array.getElem?_map]
  by_cases hi : i < k
  · rw [Array.getElem?_range, if_pos hi, if_pos hi]
    show some ((#[Value.int .i64 0] : Array Value)[i % 1]!) = _
    rw [Nat.mod_one]
    rfl
  · rw [Array.getElem?_eq_none (by simp; omega), if_neg hi]
    rfl
theorem run_make_rowI (n : Nat) (hn : n ≤ 200) (w : World) :
    (Instr.makeSlice 48 (.int .i64 (n : Int)) (.int .i64 (n : Int))).run Try.prog w = .ok (.slice (some ⟨w.heap.size, 0, none⟩) n n) (w.alloc (.cells (repL n 0).toArray 3)) := by
  obtain ⟨i0, hi, hz0, hz1, hz2⟩ := info_parts info_int
  have hr := run_make (P := Try.prog) w 48 3 i0 (.int .i64 0) Try.underlying48 hi hz0 .i64 .i64 n n (by omega) (by omega) (by rw [hz2]; omega) (by omega)
  simp only [Int.toNat_natCast, hz1, Value.cells] at hr
  rw [made_zeros] at hr
  exact hr
set_option maxHeartbeats 2000000 in
theorem repeat_is (k : Nat) (h1 : 1 ≤ k) (h2 : k ≤ 16) (g : Nat) (w : World) (hg : w.heap[g]? = some (.cells #[oneV] 3 (0, 0))) :
    Calls Try.prog 73 #[.slice (some ⟨g, 0, none⟩) 1 1, .int .i64 (k : Int)] w fun e w' => ∃ gr, e = .returned (.slice (some ⟨gr, 0, none⟩) k k) ∧ w.heap.size ≤ gr ∧ w'.heap[gr]? = some (.cells (List.replicate k oneV).toArray 3 (0, 0)) ∧ Below w.heap.size w w' := by
  have hmk := fun W => run_make_rowI k (by omega) W
  have hk0 : ¬ (k : Int) < 0 := by omega
  have HM := Lib.hid (fun W => bmul_is k h1 h2 W)
  have HG := Lib.hid hg
  have e1 : IntKind.u64.wrap (k : Int) = (k : Int) := by rw [IntKind.wrap_u64]; omega
  have e2 : IntKind.i64.wrap (k : Int) = (k : Int) := IntWalk.i64_in _ (by omega)
  have e3 : ¬ (9223372036854775807 : Int) < (k : Int) := by omega
  clear hg
  go_enter Try.func73, Try.ntmps73
  go_wp2_with fail
  refine (HM.out w).mono ?_
  rintro e w' ⟨rfl, rfl⟩
  clear hk0
  have b1 := below_box w (.cells (repL k 0).toArray 3)
  have n1 := heap_alloc_new w (.cells (repL k 0).toArray 3)
  obtain ⟨w1, hw1⟩ : ∃ x, w.alloc (.cells (repL k 0).toArray 3) = x := ⟨_, rfl⟩
  rw [hw1] at b1 n1
  obtain ⟨gr, hgr⟩ : ∃ x, w.heap.size = x := ⟨_, rfl⟩
  have HGR := Lib.hid hgr
  rw [hgr] at n1
  have N1 := Lib.hid n1
  have B1 := Lib.hid b1
  have GG1 := Lib.hid ((b1.block g (Array.getElem?_eq_some_iff.1 HG.out).1).trans HG.out)
  clear b1 n1
  go_wp2_with (first
    | (refine wpList_copy_splice rfl _ _ 48 48 rfl 3 Try.underlying48 (by kernel_rfl) _ _ k k 1 1 rfl rfl gr 0 (repL k 0) 3 N1.out [oneV] (by show 1 = Nat.min 1 k; exact (Nat.min_eq_left h1).symm) (fun _ => ⟨rfl, ⟨g, 0, none⟩, rfl, fun j v hv => by cases j with
        | zero => cases hv; exact cell_of_row GG1.out 0
        | succ j => simp at hv⟩) (by rw [repL_length (Nat.zero_le _)]; simpa using h1) (by intro v hv; simp only [List.mem_singleton] at hv; subst hv; rfl) w.heap.size w B1.out (Nat.le_of_eq HGR.out) ?_; intro w2 hg2 hb2)
    | fail)
  have HC : Hid (w2.heap[gr]? = some (.cells (repL k 1).toArray 3 (0, 0))) := Lib.hid (by
    have h9 := hg2.out
    have e9 := splice_rep (k := k) (n := 0) (m := 1) (by omega)
    rw [Nat.zero_add] at e9
    rw [← e9]
    exact h9)
  have HB2 := Lib.hid hb2
  have HGG : Hid (w.heap.size ≤ gr) := Lib.hid (Nat.le_of_eq HGR.out)
  clear hg2 hb2 hw1 hgr hmk
  go_loopw [8] (fun v8 wr => ∃ n : Nat, 1 ≤ n ∧ n ≤ k ∧ v8 = .int .i64 (n : Int) ∧ Hid (wr.heap[gr]? = some (.cells (repL k n).toArray 3 (0, 0))) ∧ Hid (Below w.heap.size w wr)) (fun v8 _ => k - (intOf v8).toNat)
  case atStart => exact ⟨1, Nat.le_refl _, h1, rfl, HC, HB2⟩
  case round =>
    obtain ⟨n, hn1, hn2, rfl, HCC, HB⟩ := hrel
    clear HC HB2
    by_cases hlt : n < k
    · have hx1 : (n : Int) < (k : Int) := by omega
      have hx0 : (0 : Int) ≤ (n : Int) := by omega
      have hx2 : (n : Int) ≤ (k : Int) := by omega
      obtain ⟨m, hm⟩ : ∃ m, Nat.min n (k - n) = m := ⟨_, rfl⟩
      have hm1 : 1 ≤ m := by rw [← hm]; exact Nat.le_min.2 ⟨hn1, by omega⟩
      have hm2 : n + m ≤ k := by have : m ≤ k - n := by rw [← hm]; exact Nat.min_le_right _ _
                                 omega
      have hm3 : m ≤ n := by rw [← hm]; exact Nat.min_le_left _ _
      have HM2 := Lib.hid hm
      have HLE := Lib.hid (And.intro hm1 (And.intro hm2 hm3))
      have HNK := Lib.hid (And.intro hn1 hlt)
      have hkn : ¬ k = n := by omega
      have hwnm : IntKind.i64.wrap ((n : Int) + (m : Int)) = (n : Int) + (m : Int) := IntWalk.i64_in _ (by omega)
      clear hm hm3 hlt
      go_wp2_with fail
      refine wp_region_held_drew (S := fun _ => True) (by kernel_rfl) trivial (fun hHeld => ?_)
      have hcd : Hid (wr.drew.heap[gr]? = some (.cells (repL k n).toArray 3 (0, 0))) := HCC.out
      have hbd : Hid (Below w.heap.size w wr.drew) := Lib.hid HB.out.drew
      clear HCC HB
      generalize wr.drew = wd at *
      refine wpAnyH_take (i := 0) (v := .int .i64 (n : Int)) rfl (by kernel_rfl) (by kernel_rfl) (by kernel_rfl) (fun _ _ _ h => h) (Or.inl ⟨by rfl, by intro W hSw; clear hSw; go_simp⟩) (by assumption) ?_
      try simp only [List.getElem_toArray, List.getElem_cons_zero, List.getElem_cons_succ, Act.put, List.setIfInBounds_toArray, List.set_cons_zero, List.set_cons_succ]
      refine wpAnyH_take (i := 1) (v := .slice (some ⟨gr, 0, none⟩) k k) rfl (by kernel_rfl) (by kernel_rfl) (by kernel_rfl) (fun _ _ _ h => h) (Or.inl ⟨by rfl, by intro W hSw; clear hSw; go_simp⟩) (by assumption) ?_
      try simp only [List.getElem_toArray, List.getElem_cons_zero, List.getElem_cons_succ, Act.put, List.setIfInBounds_toArray, List.set_cons_zero, List.set_cons_succ]
      refine wpAnyH_take (i := 2) (v := .int .i64 (n : Int)) rfl (by kernel_rfl) (by kernel_rfl) (by kernel_rfl) (fun _ _ _ h => h) (Or.inl ⟨by rfl, by intro W hSw; clear hSw; go_simp⟩) (by assumption) ?_
      try simp only [List.getElem_toArray, List.getElem_cons_zero, List.getElem_cons_succ, Act.put, List.setIfInBounds_toArray, List.set_cons_zero, List.set_cons_succ]
      refine wpAnyH_take (i := 3) (v := .slice (some ⟨gr, n, none⟩) (k - n) (k - n)) rfl (by kernel_rfl) (by kernel_rfl) (by kernel_rfl) (fun _ _ _ h => h) (Or.inl ⟨by rfl, by intro W hSw; clear hSw; go_simp⟩) (by assumption) ?_
      try simp only [List.getElem_toArray, List.getElem_cons_zero, List.getElem_cons_succ, Act.put, List.setIfInBounds_toArray, List.set_cons_zero, List.set_cons_succ]
      refine wpAnyH_take (i := 4) (v := .slice (some ⟨gr, 0, none⟩) k k) rfl (by kernel_rfl) (by kernel_rfl) (by kernel_rfl) (fun _ _ _ h => h) (Or.inl ⟨by rfl, by intro W hSw; clear hSw; go_simp⟩) (by assumption) ?_
      try simp only [List.getElem_toArray, List.getElem_cons_zero, List.getElem_cons_succ, Act.put, List.setIfInBounds_toArray, List.set_cons_zero, List.set_cons_succ]
      refine wpAnyH_take (i := 5) (v := .int .i64 (n : Int)) rfl (by kernel_rfl) (by kernel_rfl) (by kernel_rfl) (fun _ _ _ h => h) (Or.inl ⟨by rfl, by intro W hSw; clear hSw; go_simp⟩) (by assumption) ?_
      try simp only [List.getElem_toArray, List.getElem_cons_zero, List.getElem_cons_succ, Act.put, List.setIfInBounds_toArray, List.set_cons_zero, List.set_cons_succ]
      refine wpAnyH_take (i := 6) (v := .slice (some ⟨gr, 0, none⟩) n k) rfl (by kernel_rfl) (by kernel_rfl) (by kernel_rfl) (fun _ _ _ h => h) (Or.inl ⟨by rfl, by intro W hSw; clear hSw; go_simp⟩) (by assumption) ?_
      try simp only [List.getElem_toArray, List.getElem_cons_zero, List.getElem_cons_succ, Act.put, List.setIfInBounds_toArray, List.set_cons_zero, List.set_cons_succ]
      refine wpAnyH_ready (rs := [7]) (by kernel_rfl) (by simp) ?_
      refine AllReadyH.cons rfl (fun K hK => ?_) AllReadyH.nil
      refine step_copy_splice rfl _ _ 48 48 rfl 3 Try.underlying48 (by kernel_rfl) (some ⟨gr, n, none⟩) (some ⟨gr, 0, none⟩) (k - n) (k - n) n k rfl rfl gr n (repL k n) 3 hcd.out (List.replicate m oneV) (by rw [List.length_replicate]; exact HM2.out.symm) (fun _ => ⟨rfl, ⟨gr, 0, none⟩, rfl, fun j v hv => ?_⟩) (by rw [List.length_replicate, repL_length (Nat.le_of_lt HNK.out.2)]; exact HLE.out.2.1) (by intro v hv; rw [List.eq_of_mem_replicate hv]; rfl) w.heap.size w hbd.out HGG.out ?_
      · rw [List.getElem?_replicate] at hv
        split at hv
        · rename_i hj
          cases hv
          rw [add_none]
          refine (cell_of_row hcd.out _).trans ?_
          have hj2 : j < n := by have := HLE.out.2.2; omega
          rw [List.getElem?_toArray, Nat.zero_add]
          unfold repL
          rw [List.getElem?_append_left (by simpa using hj2), List.getElem?_replicate, if_pos hj2]
        · cases hv
      intro w4 hg4 hb4
      rw [splice_rep HLE.out.2.1] at hg4
      rw [List.length_replicate]
      refine hK.out _ _ trivial (fun hH4 => ?_)
      clear hK K
      try simp only [List.getElem_toArray, List.getElem_cons_zero, List.getElem_cons_succ, Act.put, List.setIfInBounds_toArray, List.set_cons_zero, List.set_cons_succ]
      refine wpAnyH_take (i := 8) (v := .int .i64 ((n + m : Nat) : Int)) rfl (by kernel_rfl) (by kernel_rfl) (by kernel_rfl) (fun _ _ _ h => h) (Or.inl ⟨by rfl, by intro W hSw; clear hSw; go_simp⟩) (by assumption) ?_
      try simp only [List.getElem_toArray, List.getElem_cons_zero, List.getElem_cons_succ, Act.put, List.setIfInBounds_toArray, List.set_cons_zero, List.set_cons_succ]
      refine wpAnyH_take (i := 9) (v := .int .i64 ((n + m : Nat) : Int)) rfl (by kernel_rfl) (by kernel_rfl) (by kernel_rfl) (fun _ _ _ h => h) (Or.inl ⟨by rfl, by intro W hSw; clear hSw; go_simp⟩) (by assumption) ?_
      try simp only [List.getElem_toArray, List.getElem_cons_zero, List.getElem_cons_succ, Act.put, List.setIfInBounds_toArray, List.set_cons_zero, List.set_cons_succ]
      refine wpAnyH_done (by kernel_rfl) ?_ _
      have HB4 := Lib.hid hb4
      clear hH4 hHeld hcd hbd hb4
      go_wp2
      have h9 := HLE.out
      have h8 := HNK.out
      go_roundw
      case rel => exact ⟨n + m, by omega, h9.2.1, rfl, hg4, HB4⟩
      case measure => simp [intOf]; omega
    · obtain rfl : n = k := by omega
      have hx1 : ¬ (n : Int) < (n : Int) := by omega
      rw [repL_full] at HCC
      clear hlt
      go_wp2
      go_ret
      exact ⟨gr, rfl, HGG.out, HCC.out, HB.out⟩
end Go.Proofs.Ytbpklbicbeckdaa
