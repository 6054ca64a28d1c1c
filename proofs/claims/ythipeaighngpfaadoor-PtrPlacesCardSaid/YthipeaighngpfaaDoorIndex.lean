/- A place's index, by the program's walk. -/
import Derived.Test.YthipeaighngpfaaDoorPlaces
namespace Go.Proofs.YthipeaighngpfaaDoor
open Go.RowKit Go.Sort
set_option linter.unusedVariables false
set_option linter.unusedSimpArgs false
set_option maxRecDepth 100000

theorem idx_fin {l f s i j : Int} {w w' : World} (h1 : idxI l f s = i) (h2 : idxE l f s = j) (h3 : Below w.heap.size w w') : IdxPost l f s w (.returned (.tuple #[.int .i64 i, .int .i64 j])) w' := ⟨by rw [h1, h2], h3⟩

set_option maxHeartbeats 1600000 in
theorem index_out (l f s : Int) (w : World) (h : l < 0 ∨ 3 ≤ l) : Calls Tryd.prog 21 #[.agg #[.int .i64 l, .int .i64 f, .int .i64 s]] w (IdxPost l f s w) := by
  have hno : ¬ isP l f s := by unfold isP; omega
  obtain ⟨e1, e2⟩ := idx_no hno
  have E1 := Lib.hid e1
  have E2 := Lib.hid e2
  clear e1 e2 hno
  rcases h with h | h
  all_goals
    go_enter Tryd.func21, Tryd.ntmps21
    go_wp2
    go_ret2
    exact idx_fin E1.out E2.out (below_box w _)

theorem below_box_drew (w : World) (o : Obj) (n : Nat) : Below w.heap.size w ((w.alloc o).drewN n) := have h := below_box w o; ⟨h.os, h.tape, h.output, h.size, h.block⟩
theorem kept3_drewN {U w' : World} {x y z : Value} {t : TypeId} {n : Nat} (b : Below ((U.alloc (.cells #[x, y, z] t)).drewN n).heap.size ((U.alloc (.cells #[x, y, z] t)).drewN n) w') : Kept3 w' U.heap.size x y z :=
  kept3 (t := t) ⟨b.os, b.tape, b.output, b.size, b.block⟩
set_option maxHeartbeats 3200000 in
theorem index_yes (l f s : Int) (w : World) (hw : BoundsAt w) (h : isP l f s) : Calls Tryd.prog 21 #[.agg #[.int .i64 l, .int .i64 f, .int .i64 s]] w (IdxPost l f s w) := by
  obtain ⟨e1, e2⟩ := idx_yes h
  have E1 := Lib.hid e1
  have E2 := Lib.hid e2
  obtain ⟨hb, o1, o2, o3⟩ := of_index h
  have EV : Hid (ofV (indexI l f s) = .tuple #[.agg #[.int .i64 l, .int .i64 f, .int .i64 s], .int .i64 0]) := by
    show _ = _
    unfold ofV; rw [o1, o2, o3, ofE_yes hb]
  have hbb := isB_iff.1 hb
  have HI : Hid (I64 (indexI l f s)) := ⟨by omega, by omega⟩
  have HQ := Lib.hid (run_neq_place_yes l f s)
  have HW := Lib.hid hw
  have hbx : ∀ o n, BoundsAt ((w.alloc o).drewN n) := fun o n => hw.below (below_box_drew w o n)
  have HBX := Lib.hid hbx
  obtain ⟨hg, g0, g1, g2, g3⟩ := hw
  clear e1 e2 hb o1 o2 o3 hbx
  unfold isP at h
  rcases h with ⟨rfl, rfl, h1, h2⟩ | ⟨rfl, rfl, h1, h2⟩ | ⟨rfl, h0, h00, h1, h2⟩
  · have hi : indexI 0 0 s = s := by unfold indexI; simp
    rw [hi] at E1 EV HI hbb
    clear hi
    go_enter Tryd.func21, Tryd.ntmps21
    go_wp2
    go_quiet (fail)
    go_wp2_with fail
    (with_reducible refine (pof_is _ _ (HBX.out _ _) HI.out).mono ?_)
    rintro e w1 ⟨rfl, c1⟩
    rw [EV.out]
    have C1 : Hid (Below w.heap.size w w1) := below_next (below_box_drew w _ _) c1
    obtain ⟨d0, d1, d2, f0, f1, f2, hz⟩ := (kept3_drewN c1)
    have hz' : w.heap.size < w1.heap.size := hz
    have hq := HQ.out
    clear c1
    go_wp2
    go_ret2
    exact idx_fin E1.out E2.out (C1.out.alloc C1.out.size _)
  · have hi : indexI 1 0 s = 8 + s := by unfold indexI; simp
    rw [hi] at E1 EV HI hbb
    clear hi
    go_enter Tryd.func21, Tryd.ntmps21
    go_wp2
    go_quiet (fail)
    go_wp2_with fail
    (with_reducible refine (pof_is _ _ (HBX.out _ _) HI.out).mono ?_)
    rintro e w1 ⟨rfl, c1⟩
    rw [EV.out]
    have C1 : Hid (Below w.heap.size w w1) := below_next (below_box_drew w _ _) c1
    obtain ⟨d0, d1, d2, f0, f1, f2, hz⟩ := (kept3_drewN c1)
    have hz' : w.heap.size < w1.heap.size := hz
    have hq := HQ.out
    clear c1
    go_wp2
    go_ret2
    exact idx_fin E1.out E2.out (C1.out.alloc C1.out.size _)
  · have hi : indexI 2 f s = 40 + f * 32 + s := by unfold indexI; simp
    rw [hi] at E1 EV HI hbb
    clear hi
    go_enter Tryd.func21, Tryd.ntmps21
    go_wp2
    go_quiet (fail)
    go_wp2_with fail
    (with_reducible refine (pof_is _ _ (HBX.out _ _) HI.out).mono ?_)
    rintro e w1 ⟨rfl, c1⟩
    rw [EV.out]
    have C1 : Hid (Below w.heap.size w w1) := below_next (below_box_drew w _ _) c1
    obtain ⟨d0, d1, d2, f0, f1, f2, hz⟩ := (kept3_drewN c1)
    have hz' : w.heap.size < w1.heap.size := hz
    have hq := HQ.out
    clear c1
    go_wp2
    go_ret2
    exact idx_fin E1.out E2.out (C1.out.alloc C1.out.size _)

/-- What Of answers of an index that no such place has. -/
def OthPost (l f s : Int) (w : World) (e : Ending) (w' : World) : Prop := ∃ L F S E : Int, e = .returned (.tuple #[.agg #[.int .i64 L, .int .i64 F, .int .i64 S], .int .i64 E]) ∧ ¬ (E = 0 ∧ L = l ∧ F = f ∧ S = s) ∧ Below w.heap.size w w'
theorem pof_other {l f s : Int} (hno : ¬ isP l f s) (i : Int) (w : World) (hw : BoundsAt w) (hi : I64 i) : Calls Tryd.prog 20 #[.int .i64 i] w (OthPost l f s w) := by
  refine (pof_is i w hw hi).mono ?_
  rintro e w' ⟨he, hb⟩
  refine ⟨ofL i, ofF i, ofS i, ofE i, he, ?_, hb⟩
  rintro ⟨h0, h1⟩
  cases hbb : isB i with
  | true => exact not_made hno hbb h1
  | false => rcases ofE_no hbb with e | e <;> omega
theorem ne0_ {x : Int} (h : x ≠ 0) : (x == 0) = false ∧ (x != 0) = true := by simp [h]

set_option maxHeartbeats 3200000 in
theorem index_no (l f s : Int) (w : World) (hw : BoundsAt w) (h : ¬ isP l f s) (hl : 0 ≤ l) (hl3 : l < 3) : Calls Tryd.prog 21 #[.agg #[.int .i64 l, .int .i64 f, .int .i64 s]] w (IdxPost l f s w) := by
  obtain ⟨e1, e2⟩ := idx_no h
  have E1 := Lib.hid e1
  have E2 := Lib.hid e2
  have HN := Lib.hid h
  have hbx : ∀ o n, BoundsAt ((w.alloc o).drewN n) := fun o n => hw.below (below_box_drew w o n)
  have HBX := Lib.hid hbx
  obtain ⟨hg, g0, g1, g2, g3⟩ := hw
  clear e1 e2 hbx h
  have h012 : l = 0 ∨ l = 1 ∨ l = 2 := by omega
  rcases h012 with rfl | rfl | rfl
  all_goals
    go_enter Tryd.func21, Tryd.ntmps21
    go_wp2
    go_quiet (fail)
    go_wp2_with fail
    (with_reducible refine (pof_other HN.out _ _ (HBX.out _ _) ?_).mono ?_)
    · first | exact wrap64_in _ | (rw [IntKind.wrap_i64]; exact wrap64_in _)
    rintro e w1 ⟨L, F, S, E, rfl, hno, c1⟩
    have C1 : Hid (Below w.heap.size w w1) := below_next (below_box_drew w _ _) c1
    obtain ⟨d0, d1, d2, f0, f1, f2, hz⟩ := (kept3_drewN c1)
    have hz' : w.heap.size < w1.heap.size := hz
    clear c1
    by_cases hE : E = 0
    · subst hE
      have hq := run_neq_place_no (a := L) (b := F) (c := S) fun hh => hno ⟨rfl, hh⟩
      clear hno
      go_wp2
      go_ret2
      exact idx_fin E1.out E2.out (C1.out.alloc C1.out.size _)
    · obtain ⟨q1, q2⟩ := ne0_ hE
      clear hno hE
      go_wp2
      go_ret2
      exact idx_fin E1.out E2.out (C1.out.alloc C1.out.size _)
theorem index_is (l f s : Int) (w : World) (hw : BoundsAt w) : Calls Tryd.prog 21 #[.agg #[.int .i64 l, .int .i64 f, .int .i64 s]] w (IdxPost l f s w) := by
  by_cases h : isP l f s
  · exact index_yes l f s w hw h
  · by_cases h2 : l < 0 ∨ 3 ≤ l
    · exact index_out l f s w h2
    · exact index_no l f s w hw h (by omega) (by omega)
end Go.Proofs.YthipeaighngpfaaDoor
