/- Where a block hangs: the program's walk and the document's. -/
import Derived.Test.YtcpbffmffoneeaaDoorHush
import Derived.Test.YtcpbffmffoneeaaDoorPtrMath
import Derived.Test.YtcpbffmffoneeaaDoorLaid
namespace Go.Proofs.YtcpbffmffoneeaaDoor
open Go.RowKit Go.Sort
set_option linter.unusedVariables false
set_option maxRecDepth 100000

/-- What Of answers. -/
def ofV (i : Int) : Value := .tuple #[.agg #[.int .i64 (ofL i), .int .i64 (ofF i), .int .i64 (ofS i)], .int .i64 (ofE i)]
theorem ofV_neg {i : Int} (h : i < 0) : ofV i = .tuple #[.agg #[.int .i64 0, .int .i64 0, .int .i64 0], .int .i64 1] := by
  have hb := isB_no (i := i) (by omega)
  unfold ofV ofL ofF ofS ofE
  rw [hb, if_pos h]; rfl
theorem ofV_big {i : Int} (h : 1064 ≤ i) : ofV i = .tuple #[.agg #[.int .i64 0, .int .i64 0, .int .i64 0], .int .i64 12] := by
  have hb := isB_no (i := i) (by omega)
  have e : ofE i = 12 := by unfold ofE; rw [if_neg (by omega), if_pos h]
  unfold ofV ofL ofF ofS
  rw [hb, e]; rfl
theorem ofV_node {i : Int} (h : 0 ≤ i) (h8 : i < 8) : ofV i = .tuple #[.agg #[.int .i64 0, .int .i64 0, .int .i64 i], .int .i64 0] := by
  have hb : blkB i = true := isB_iff.2 (by omega)
  unfold ofV ofL ofF ofS
  rw [ofE_yes hb, hb]
  simp only [if_true, if_pos h8, if_pos (show i < 40 by omega)]
theorem ofV_single {i : Int} (h : 8 ≤ i) (h8 : i < 40) : ofV i = .tuple #[.agg #[.int .i64 1, .int .i64 0, .int .i64 (i - 8)], .int .i64 0] := by
  have hb : blkB i = true := isB_iff.2 (by omega)
  unfold ofV ofL ofF ofS
  rw [ofE_yes hb, hb]
  simp only [if_true, if_pos h8, if_neg (show ¬ i < 8 by omega)]
theorem ofV_leaf {i : Int} (h : 40 ≤ i) (h8 : i < 1064) : ofV i = .tuple #[.agg #[.int .i64 2, .int .i64 ((i - 40) / 32), .int .i64 ((i - 40) % 32)], .int .i64 0] := by
  have hb : blkB i = true := isB_iff.2 (by omega)
  unfold ofV ofL ofF ofS
  rw [ofE_yes hb, hb]
  simp only [if_true, if_neg (show ¬ i < 40 by omega), if_neg (show ¬ i < 8 by omega)]
/-- What a call leaves that answers this. -/
def OfPost (i : Int) (w : World) (e : Ending) (w' : World) : Prop := e = .returned (ofV i) ∧ Below w.heap.size w w'

set_option maxHeartbeats 3200000 in
theorem pof_is (i : Int) (w : World) (hw : BoundsAt w) (hi : I64 i) : Calls Tryd.prog 22 #[.int .i64 i] w (OfPost i w) := by
  obtain ⟨i1, i2⟩ := hi
  have fin : ∀ (v : Value) (w' : World), ofV i = v → Below w.heap.size w w' → OfPost i w (.returned v) w' := fun v w' h1 h2 => ⟨by rw [h1], h2⟩
  have HF := Lib.hid fin
  clear fin
  by_cases h1 : i < 0
  · have E := Lib.hid (ofV_neg h1)
    clear hw
    go_enter Tryd.func22, Tryd.ntmps22
    go_wp2
    refine bodyPost_ret (v := .tuple #[.agg #[.int .i64 0, .int .i64 0, .int .i64 0], .int .i64 1]) (by simp [results, Tryd.results22, go_sem]) rfl (HF.out _ _ E.out ?_)
    exact below_box w _
  · by_cases h2 : 1064 ≤ i
    · have E := Lib.hid (ofV_big h2)
      clear hw
      go_enter Tryd.func22, Tryd.ntmps22
      go_wp2
      refine bodyPost_ret (v := .tuple #[.agg #[.int .i64 0, .int .i64 0, .int .i64 0], .int .i64 12]) (by simp [results, Tryd.results22, go_sem]) rfl (HF.out _ _ E.out ?_)
      exact below_box w _
    · have h0 : 0 ≤ i := by omega
      have h3 : i < 1064 := by omega
      obtain ⟨hg, c0, c1, c2, c3⟩ := hw
      go_enter Tryd.func22, Tryd.ntmps22
      go_wp2
      go_loop [4] (fun l => l = .int .i64 0 ∨ (8 ≤ i ∧ l = .int .i64 1) ∨ (40 ≤ i ∧ l = .int .i64 2)) (fun l => (3 - intOf l).toNat)
      case atStart => exact .inl rfl
      case round =>
        rcases hrel with rfl | ⟨h8, rfl⟩ | ⟨h40, rfl⟩
        · by_cases h8 : 8 ≤ i
          · go_wp2
            go_round
            case rel => exact .inr (.inl ⟨h8, rfl⟩)
            case measure => simp [intOf]
          · have E := Lib.hid (ofV_node h0 (by omega))
            go_wp2
            refine bodyPost_ret (v := .tuple #[.agg #[.int .i64 0, .int .i64 0, .int .i64 i], .int .i64 0]) (by simp [results, Tryd.results22, go_sem]) rfl (HF.out _ _ E.out ?_)
            first | exact (below_box w _).alloc (by simp) _ | (trace_state; omega)
        · by_cases h40 : 40 ≤ i
          · go_wp2
            go_round
            case rel => exact .inr (.inr ⟨h40, rfl⟩)
            case measure => simp [intOf]
          · have E := Lib.hid (ofV_single h8 (by omega))
            go_wp2
            refine bodyPost_ret (v := .tuple #[.agg #[.int .i64 1, .int .i64 0, .int .i64 (i - 8)], .int .i64 0]) (by simp [results, Tryd.results22, go_sem]) rfl (HF.out _ _ E.out ?_)
            first | exact (below_box w _).alloc (by simp) _ | (trace_state; omega)
        · have E := Lib.hid (ofV_leaf h40 h3)
          go_wp2
          refine bodyPost_ret (v := .tuple #[.agg #[.int .i64 2, .int .i64 ((i - 40) / 32), .int .i64 ((i - 40) % 32)], .int .i64 0]) (by simp [results, Tryd.results22, go_sem]) rfl (HF.out _ _ E.out ?_)
          first | exact (below_box w _).alloc (by simp) _ | (trace_state; omega)
end Go.Proofs.YtcpbffmffoneeaaDoor
