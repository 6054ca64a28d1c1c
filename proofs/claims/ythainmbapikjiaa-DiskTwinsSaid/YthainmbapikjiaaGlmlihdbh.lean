/- Small things that the walks of layer 2's laws share. The reference's own sector type: its laws; ref.Full by its walk. -/
import Derived.Test.YthainmbapikjiaaGcnihkdpj
import Derived.Test.YthainmbapikjiaaOpen
import Derived.Deep.DeepCutAuto
namespace Go.Proofs.Ythainmbapikjiaa
open Go.RowKit
set_option linter.unusedVariables false
set_option maxRecDepth 100000

theorem same_self (l : List Nat) : sameB l l = true := by simp [sameB]
theorem below_drawn {B : Nat} {a w : World} (h : Below B a w) (n : Nat) : Below B a (w.drewN n) := h.trans ⟨rfl, rfl, rfl, Nat.le_refl _, fun _ _ => rfl⟩
/-- A box of two cells, later. -/
theorem boxed2 {w w1 : World} {x y : Value} {t : TypeId} (hb : Below (w.alloc (.cells #[x, y] t)).heap.size (w.alloc (.cells #[x, y] t)) w1) :
    w1.cell? ⟨w.heap.size, 0, none⟩ = some x ∧ w1.cell? ⟨w.heap.size, 1, none⟩ = some y ∧ Below w.heap.size w w1 ∧ w.heap.size < w1.heap.size := by
  have hs : (w.alloc (.cells #[x, y] t)).heap.size = w.heap.size + 1 := by simp
  have hz := hb.size
  refine ⟨?_, ?_, ((Below.refl _ _).alloc (Nat.le_refl _) _).trans (hb.mono (by omega)), by omega⟩
  · rw [hb.cell (p := ⟨w.heap.size, 0, none⟩) (by rw [hs]; exact Nat.lt_succ_self _)]
    unfold World.cell?; rw [heap_alloc_new]; rfl
  · rw [hb.cell (p := ⟨w.heap.size, 1, none⟩) (by rw [hs]; exact Nat.lt_succ_self _)]
    unfold World.cell?; rw [heap_alloc_new]; rfl

theorem or_one (x : Nat) (hx : x < 256) : ∃ k : Nat, bits .or .u8 (x : Int) 1 = (k : Int) ∧ k < 256 ∧ k ≠ 0 := by
  refine ⟨x ||| 1, u8_or_nat x 1 hx (by decide), Nat.or_lt_two_pow (n := 8) hx (show 1 < 2 ^ 8 by decide), ?_⟩
  intro h
  have := Nat.right_le_or (n := x) (m := 1)
  omega

theorem sealL_inj {k k' : Nat} {a b : List Nat} (ha : a.length ≤ 120) (hb : b.length ≤ 120) : decide (sealL k a = sealL k' b) = (decide (k = k') && sameB a b) := by
  rw [Bool.eq_iff_iff]
  simp only [decide_eq_true_eq, Bool.and_eq_true, sameB]
  constructor
  · intro h
    exact ⟨by rw [← sealL_kind k a, h, sealL_kind], by rw [← sealL_body k a ha, h, sealL_body k' b hb]⟩
  · rintro ⟨rfl, rfl⟩; rfl

/-- A sector that a law keeps in a block of its own. -/
theorem kept_cells {wk : World} {g : Nat} {s : List Nat} (hs : s.length = 128) (h : wk.heap[g]? = some (.cells (cells s) 106 (0, 0))) : ∀ j, j < 128 → wk.cell? ⟨g, 0 + j, none⟩ = some (byteV (s.getD j 0)) := fun j hj => by
  rw [cell_of_row _ _ _ _ _ _ h, Nat.zero_add]
  simp [cells, List.getD, List.getElem?_eq_getElem (show j < s.length by omega)]

theorem equal_any (a a' : Option Addr) (len len' cap cap' : Nat) (l l' : List Nat) (w : World) (hr : Reads w a len l) (hr' : Reads w a' len' l') (hm : len ≤ maxLen) :
    Calls Try.prog 23 #[.slice a len cap, .slice a' len' cap'] w fun e w' => e = .returned (.bool (sameB l l')) ∧ ∃ n, w.drewN n = w' := by
  by_cases h : len = len'
  · subst h
    exact equal_alike a a' len cap cap' l l' w hr hr' hm
  · refine (equal_unlike_size a a' len len' cap cap' w h).mono ?_
    rintro e w' ⟨rfl, rfl⟩
    have hs : sameB l l' = false := by
      unfold sameB
      apply decide_eq_false
      rintro rfl
      exact h (hr.1.symm.trans hr'.1)
    rw [hs]
    exact ⟨rfl, 0, rfl⟩
end Go.Proofs.Ythainmbapikjiaa
namespace Go.Proofs.Ythainmbapikjiaa
open Go.RowKit
set_option linter.unusedVariables false
set_option maxRecDepth 100000

theorem zero_full (w : World) : (zeroValue 39).run Try.prog w = .ok (.agg (cells noughts)) w := by kernel_rfl
theorem size_full : (Try.prog.info? 39).map (·.size) = some 128 := by kernel_rfl
theorem row_full : Try.prog.underlying 39 = some (.array 128 5) := by kernel_rfl
theorem build_full (w : World) : (Instr.build 39 #[]).run Try.prog w = .ok (.agg (cells noughts)) w := by kernel_rfl

theorem wpList_store_full {ops : Array Oper} {rest : List Oper} {o : Oper} {a : Act} {w : World} {Q : Exit → Act → World → Prop} (hgd : o.guard = none) (x y : Operand) (ho : o.op = .store 39 x y)
    (g : Nat) (l : List Nat) (hx : a.eval x = .pointer (some ⟨g, 0, none⟩)) (hy : a.eval y = .agg (cells l)) (hl : l.length = 128) (t : TypeId) (old : Array Value) (hg : w.heap[g]? = some (.cells old t (0, 0))) (ho2 : old.size = 128)
    (h : wpList Try.prog ops Q rest (a.put o.dst undef) (w.setRow g (cells l))) : wpList Try.prog ops Q (o :: rest) a w :=
  wpList_store_row hgd 39 x y ho g (cells l) hx hy t old hg (by rw [size_full, cells_size, hl]) (by rw [cells_size, hl, ho2]) (cells_one l) h

theorem full_parts {w : World} {g off : Nat} {l : List Nat} (hl : l.length = 128) (hc : ∀ j, j < 128 → w.cell? ⟨g, off + j, none⟩ = some (byteV (l.getD j 0))) : ∀ j v, (l.map byteV)[j]? = some v → w.cell? ⟨g, off + j, none⟩ = some v := fun j v hv => by
  simp only [List.getElem?_map, Option.map_eq_some_iff] at hv
  obtain ⟨y, hy, rfl⟩ := hv
  have hj : j < 128 := by rw [← hl]; exact (List.getElem?_eq_some_iff.1 hy).1
  rw [hc j hj]
  simp [List.getD, hy]

theorem wpList_load_full {ops : Array Oper} {rest : List Oper} {o : Oper} {a : Act} {w : World} {Q : Exit → Act → World → Prop} (hgd : o.guard = none) (x : Operand) (ho : o.op = .load 39 x)
    (g off : Nat) (l : List Nat) (hx : a.eval x = .pointer (some ⟨g, off, none⟩)) (hl : l.length = 128) (hc : ∀ j, j < 128 → w.cell? ⟨g, off + j, none⟩ = some (byteV (l.getD j 0)))
    (h : wpList Try.prog ops Q rest (a.put o.dst (.agg (cells l))) w) : wpList Try.prog ops Q (o :: rest) a w :=
  wpList_load_mid hgd 39 x ho g off hx (l.map byteV) _ (full_parts hl hc) row_full rfl (by rw [size_full, List.length_map, hl]) h

theorem wpList_load_full_want {ops : Array Oper} {rest : List Oper} {o : Oper} {a : Act} {w : World} {Q : Exit → Act → World → Prop} (hw : Region.wanted o (yielded ops a.tmps) = true) (x : Operand) (ho : o.op = .load 39 x)
    (g off : Nat) (l : List Nat) (hx : a.eval x = .pointer (some ⟨g, off, none⟩)) (hl : l.length = 128) (hc : ∀ j, j < 128 → w.cell? ⟨g, off + j, none⟩ = some (byteV (l.getD j 0)))
    (h : wpList Try.prog ops Q rest (a.put o.dst (.agg (cells l))) w) : wpList Try.prog ops Q (o :: rest) a w :=
  BigFrame.wpList_want hw fun _ hK => wp_load_mid 39 x ho g off hx (l.map byteV) _ (full_parts hl hc) row_full rfl (by rw [size_full, List.length_map, hl]) (hK _ _ h)

theorem results_full {fn : Func} {p : Tmp} (h : fn.results = #[.cell p 39]) (tmps : Array Value) (w : World) (g : Nat) (l : List Nat) (t : TypeId) (fr : Nat × Nat) (hp : tmps.getD p undef = .pointer (some ⟨g, 0, none⟩))
    (hg : w.heap[g]? = some (.cells (cells l) t fr)) (hl : l.length = 128) : (results fn tmps).run Try.prog w = .ok (.agg (cells l)) w :=
  results_cell_row h tmps w g t (cells l) fr _ hp hg row_full rfl (by rw [size_full, cells_size, hl])
theorem results_full_tmp {fn : Func} {p u : Tmp} (h : fn.results = #[.cell p 39, .tmp u]) (tmps : Array Value) (w : World) (g : Nat) (l : List Nat) (t : TypeId) (fr : Nat × Nat) (hp : tmps.getD p undef = .pointer (some ⟨g, 0, none⟩))
    (hg : w.heap[g]? = some (.cells (cells l) t fr)) (hl : l.length = 128) : (results fn tmps).run Try.prog w = .ok (.tuple #[.agg (cells l), tmps.getD u undef]) w := by
  rw [results_cell_tmp h, hp]
  simp only [asAddr, Sem.run_pure, Result.andThen_ok]
  rw [run_loadVar_row w g t 39 (cells l) fr _ hg row_full rfl (by rw [size_full, cells_size, hl])]
  rfl

theorem run_equalIn_full (d : Nat) (a b : List Nat) (ha : a.length = 128) (hb : b.length = 128) (w : World) :
    (Op.equalIn (d + 2) 39 (.agg (cells a)) (.agg (cells b))).run Try.prog w = .ok (decide (a = b)) w := by
  unfold Op.equalIn
  simp only [Sem.run_bind, run_underlying row_full, Result.andThen_ok, run_size_u8]
  rw [Std.Legacy.Range.forIn_eq_forIn_range']
  refine run_cells_loop d a b ha hb w _ ?_ ?_ 128 0 (by omega) (by simp)
  · simp
  · simp
theorem run_neq_full (a b : List Nat) (ha : a.length = 128) (hb : b.length = 128) (w : World) : (binOp .neq 39 (.agg (cells a)) (.agg (cells b))).run Try.prog w = .ok (.bool (!decide (a = b))) w := by
  simp only [binOp]
  simp [Op.equal, Op.maxDepth, run_equalIn_full 9998 a b ha hb w]

/-- The cells of a block that holds 128 bytes, of whatever type. -/
theorem block_cells {wk : World} {g : Nat} {s : List Nat} {t : TypeId} (hs : s.length = 128) (h : wk.heap[g]? = some (.cells (cells s) t (0, 0))) : ∀ j, j < 128 → wk.cell? ⟨g, 0 + j, none⟩ = some (byteV (s.getD j 0)) := fun j hj => by
  rw [cell_of_row _ _ _ _ _ _ h, Nat.zero_add]
  simp [cells, List.getD, List.getElem?_eq_getElem (show j < s.length by omega)]

theorem cells_put (s : List Nat) (i v : Nat) : (cells s).setIfInBounds i (byteV v) = cells (s.set i v) := by
  simp [cells, List.map_set]
theorem pad_put {l : List Nat} {k : Nat} (hk : k < l.length) (h : k < 128) : (pad (l.take k)).set k (l.getD k 0) = pad (l.take (k + 1)) := by
  have hl : (l.take k).length = k := by simp; omega
  unfold pad
  rw [List.set_append_right _ _ (by omega), take_snoc_getD l k hk, List.append_assoc, List.length_append, hl]
  rw [show 128 - k = (127 - k) + 1 by omega, List.replicate_succ, Nat.sub_self]
  simp only [List.set_cons_zero, List.length_singleton]
  rw [show 128 - (k + 1) = 127 - k by omega]
  rfl

/-- What Full hands back. -/
def fullL (l : List Nat) : List Nat := pad (l.take 128)
theorem fullL_length (l : List Nat) : (fullL l).length = 128 := pad_length (by simp; omega)
theorem fullL_bytes {l : List Nat} (h : Bytes l) : Bytes (fullL l) := pad_bytes (h.take 128)

set_option maxHeartbeats 800000 in
set_option maxRecDepth 100000 in
theorem full_any (a : Option Addr) (len cap : Nat) (l : List Nat) (w : World) (hr : Reads w a len l) (hl : len ≤ maxLen) :
    Calls Try.prog 56 #[.slice a len cap] w fun e w' => e = .returned (.agg (cells (fullL l))) ∧ Below w.heap.size w w' := by
  obtain rfl : len = l.length := hr.1.symm
  have hm : l.length ≤ 9223372036854775807 := by unfold maxLen at hl; omega
  have hz := zero_full
  go_enter Try.func56, Try.ntmps56
  go_wp2
  go_loopw [4] (fun i wr => ∃ k : Nat, k ≤ l.length ∧ k ≤ 128 ∧ i = .int .i64 k ∧ Below w.heap.size w wr ∧ wr.heap[w.heap.size]? = some (.cells (cells noughts) 39 (0, 0)) ∧ wr.heap[w.heap.size + 1]? = some (.cells (cells (pad (l.take k))) 39 (0, 0))) (fun i _ => 128 - (intOf i).toNat)
  case atStart => 
    refine ⟨0, by omega, by omega, rfl, ((Below.refl _ _).alloc (Nat.le_refl _) _).alloc (by simp) _, ?_, ?_⟩
    · rw [Below.heap_alloc _ _ _ (by simp)]; exact heap_alloc_new _ _
    · have := heap_alloc_new (w.alloc (.cells (cells noughts) 39)) (.cells (cells noughts) 39)
      have hn : noughts = pad (l.take 0) := rfl
      simpa [hn] using this
  case round =>
    obtain ⟨k, hk, hk8, rfl, hb, hg2, hg3⟩ := hrel
    have hpl : (pad (l.take k)).length = 128 := pad_length (by simp; omega)
    by_cases hlt : k < l.length ∧ k < 128
    · obtain ⟨hlt, h8⟩ := hlt
      have h3 : ∃ b off, a = some ⟨b, off, none⟩ ∧ wr.cell? ⟨b, off + k, none⟩ = some (.int .u8 ((l.getD k 0 : Nat) : Int)) := by
        obtain ⟨_, _, hl3⟩ := hr.below hb
        rcases hl3 with rfl | ⟨b, off, e, _, hc⟩
        · simp at hlt
        · exact ⟨b, off, e, hc k hlt⟩
      obtain ⟨b, off, rfl, hc⟩ := h3
      have hfz : wr.frozen? ⟨w.heap.size + 1, k, none⟩ = false := frozen_of_row _ _ _ _ _ hg3
      have hck := block_cells hpl hg3 k h8
      rw [Nat.zero_add] at hck
      have HP := Lib.hid (pad_put hlt h8)
      obtain ⟨x, hx⟩ : ∃ x, l.getD k 0 = x := ⟨_, rfl⟩
      rw [hx] at HP hc
      have hg3' : (wr.setCell ⟨w.heap.size + 1, k, none⟩ (.int .u8 (x : Nat))).heap[w.heap.size + 1]? = some (.cells (cells (pad (l.take (k + 1)))) 39 (0, 0)) := by
        rw [heap_setCell_same _ _ _ _ _ _ hg3, ← HP.out]
        exact congrArg (fun x => some (Obj.cells x 39 (0, 0))) (cells_put _ k x)
      have hg2' : (wr.setCell ⟨w.heap.size + 1, k, none⟩ (.int .u8 (x : Nat))).heap[w.heap.size]? = some (.cells (cells noughts) 39 (0, 0)) := by
        rw [Below.heap_setCell _ _ _ _ (by simp)]; exact hg2
      have hb' := hb.setCell (p := ⟨w.heap.size + 1, k, none⟩) (Nat.le_succ _) (.int .u8 (x : Nat))
      have H3 := Lib.hid hg3'
      have H2 := Lib.hid hg2'
      have HB := Lib.hid hb'
      clear hpl HP hx hg3' hg2' hb' hg2 hg3 hb
      go_wp2
      go_roundw
      case rel => exact ⟨k + 1, by omega, by omega, by go_num, HB.out, H2.out, H3.out⟩
      case measure => simp [intOf]; omega
    · have hfin : pad (l.take k) = fullL l := by
        unfold fullL
        by_cases h1 : k = l.length
        · rw [List.take_of_length_le (by omega), List.take_of_length_le (by omega)]
        · rw [show k = 128 by omega]
      rw [hfin] at hg3
      have HC := Lib.hid (block_cells (fullL_length l) hg3)
      have HG := Lib.hid hg2
      have HF := Lib.hid (fullL_length l)
      clear hpl hfin hg2 hg3
      by_cases h1 : k < l.length
      · have h2 : ¬ k < 128 := fun h => hlt ⟨h1, h⟩
        clear hlt
        go_wp2_with (first | (refine wpList_load_full rfl (.tmp 3) rfl (w.heap.size + 1) 0 _ rfl HF.out HC.out ?_) | (refine wpList_store_full rfl (.tmp 2) (.tmp 21) rfl w.heap.size _ rfl rfl HF.out _ _ HG.out rfl ?_))
        exact bodyPost_ret (results_full rfl _ _ w.heap.size _ _ _ rfl (setRow_heap _ _ _ _ _ _ HG.out) HF.out) rfl ⟨rfl, below_setRow hb (Nat.le_refl _) _⟩
      · clear hlt
        go_wp2_with (first | (refine wpList_load_full rfl (.tmp 3) rfl (w.heap.size + 1) 0 _ rfl HF.out HC.out ?_) | (refine wpList_store_full rfl (.tmp 2) (.tmp 21) rfl w.heap.size _ rfl rfl HF.out _ _ HG.out rfl ?_))
        exact bodyPost_ret (results_full rfl _ _ w.heap.size _ _ _ rfl (setRow_heap _ _ _ _ _ _ HG.out) HF.out) rfl ⟨rfl, below_setRow hb (Nat.le_refl _) _⟩
end Go.Proofs.Ythainmbapikjiaa
