/- The fixed fact of layer 5's laws, by its walk. -/
import Derived.Test.YtpnafikmbbnecaaInode2
import Derived.Test.YtpnafikmbbnecaaSIs
namespace Go.Proofs.Ytpnafikmbbnecaa
open Go.RowKit Go.Sort
set_option linter.unusedVariables false
set_option linter.unusedSimpArgs false
set_option maxRecDepth 100000

set_option maxHeartbeats 1600000 in
theorem writeInode_is {l : List FldD} (hl : IsInode l) (w : World) :
    Calls Try.prog 95 #[.agg (cellsF l)] w fun e w' => e = .returned (.tuple #[.agg (cells (writeI l).1), .int .i64 (writeI l).2]) ∧ Below w.heap.size w w' := by
  have hz := zero_sector
  obtain ⟨d, hd1, hd2⟩ := row_inode
  have hsi : (Try.prog.info? 160).map (·.size) = some (rowV l).length := by unfold rowV; rw [List.length_map, hl.1]; exact size_inode
  have b1 := below_box w (.cells (cellsF l) 160)
  have n1 := heap_alloc_new w (.cells (cellsF l) 160)
  obtain ⟨w1, hw1⟩ : ∃ w1, w.alloc (.cells (cellsF l) 160) = w1 := ⟨_, rfl⟩
  have hs1 : w1.heap.size = w.heap.size + 1 := by rw [← hw1]; simp
  rw [hw1] at b1 n1
  have b2 := below_box w1 (.cells (cells noughts) 43)
  have n2 := heap_alloc_new w1 (.cells (cells noughts) 43)
  have n1' := (b2.block w.heap.size (by omega)).trans n1
  have hr1 := rowV_range n1'
  have HB := Lib.hid (below_next b1 b2)
  rw [hs1] at n2
  obtain ⟨w2, hw2⟩ : ∃ w2, w1.alloc (.cells (cells noughts) 43) = w2 := ⟨_, rfl⟩
  rw [hw2] at n2 n1' hr1 HB
  have hs2 : w2.heap.size = w.heap.size + 2 := by rw [← hw2]; simp [hs1]
  clear b1 n1 b2
  go_enter Try.func95, Try.ntmps95
  go_wp2_with (refine wpList_load_mid rfl 160 _ rfl w.heap.size 0 rfl (rowV l) d hr1 hd1 hd2 hsi ?_)
  refine (write_inode hl w2).mono ?_
  rintro e w3 ⟨rfl, b3⟩
  have n3 := (b3.block (w.heap.size + 1) (by omega)).trans n2
  have hlen := writeI_length l hl
  obtain ⟨s, hse⟩ : ∃ s, (writeI l).1 = s := ⟨_, rfl⟩
  obtain ⟨er, here⟩ : ∃ er, (writeI l).2 = er := ⟨_, rfl⟩
  have HS := Lib.hid (And.intro hse here)
  rw [hse, here]
  rw [hse] at hlen
  have hd := setRow_heap w3 (w.heap.size + 1) _ (cells s) _ _ n3
  have hb := below_setRow (g := w.heap.size + 1) (HB.out.trans (b3.mono HB.out.size)) (by omega) (cells s)
  clear b3 n1' n2 hr1 HB hw1 hw2 hs1 hs2 hse here
  go_wp2_with (refine wpList_store_sector rfl _ _ rfl (w.heap.size + 1) s rfl rfl hlen _ _ n3 rfl ?_)
  refine bodyPost_ret (results_sector rfl _ _ (w.heap.size + 1) s _ _ rfl hd hlen) rfl ?_
  exact ⟨by rw [HS.out.1, HS.out.2]; rfl, hb⟩

set_option maxHeartbeats 1600000 in
theorem readInode_is (s : List Nat) (hs : s.length = 128) (hbs : Bytes s) (w : World) :
    Calls Try.prog 96 #[.agg (cells s)] w fun e w' => e = .returned (.tuple #[.agg (cellsF (readI s).1), .int .i64 (readI s).2]) ∧ Below w.heap.size w w' := by
  have hz := zero_sector
  have hzi := zero_inode
  obtain ⟨d, hd1, hd2⟩ := row_inode
  have b1 := below_box w (.cells (cells s) 43)
  have n1 := heap_alloc_new w (.cells (cells s) 43)
  obtain ⟨w1, hw1⟩ : ∃ w1, w.alloc (.cells (cells s) 43) = w1 := ⟨_, rfl⟩
  have hs1 : w1.heap.size = w.heap.size + 1 := by rw [← hw1]; simp
  rw [hw1] at b1 n1
  have b2 := below_box w1 (.cells (cellsF zeroI) 160)
  have n2 := heap_alloc_new w1 (.cells (cellsF zeroI) 160)
  have n1' := (b2.block w.heap.size (by omega)).trans n1
  have HB := Lib.hid (below_next b1 b2)
  rw [hs1] at n2
  obtain ⟨w2, hw2⟩ : ∃ w2, w1.alloc (.cells (cellsF zeroI) 160) = w2 := ⟨_, rfl⟩
  rw [hw2] at n2 n1' HB
  have hs2 : w2.heap.size = w.heap.size + 2 := by rw [← hw2]; simp [hs1]
  have HC := Lib.hid (block_cells hs n1')
  clear b1 n1 b2
  go_enter Try.func96, Try.ntmps96
  go_wp2_with (refine wpList_load_sector rfl _ rfl w.heap.size 0 s rfl hs HC.out ?_)
  refine (read_inode s hs hbs w2).mono ?_
  rintro e w3 ⟨rfl, b3⟩
  have n3 := (b3.block (w.heap.size + 1) (by omega)).trans n2
  have hx15 : (readI s).1.length = 15 := by
    unfold readI
    split
    · unfold rdI; rw [stO_length]; rfl
    · rfl
  obtain ⟨x, hse⟩ : ∃ x, (readI s).1 = x := ⟨_, rfl⟩
  obtain ⟨er, here⟩ : ∃ er, (readI s).2 = er := ⟨_, rfl⟩
  have HS := Lib.hid (And.intro hse here)
  rw [hse, here]
  rw [hse] at hx15
  have hsx2 : (Try.prog.info? 160).map (·.size) = some (cellsF x).size := by rw [cellsF_size, hx15]; exact size_inode
  have hold : (cellsF zeroI).size = (cellsF x).size := by rw [cellsF_size, cellsF_size, hx15]; rfl
  have hone := cellsF_one x
  have hd := setRow_heap w3 (w.heap.size + 1) _ (cellsF x) _ _ n3
  have hb := below_setRow (g := w.heap.size + 1) (HB.out.trans (b3.mono HB.out.size)) (by omega) (cellsF x)
  clear b3 n1' n2 HB hw1 hw2 hs1 hs2 hse here HC
  go_wp2_with (refine wpList_store_row rfl 160 _ _ rfl (w.heap.size + 1) (cellsF x) rfl rfl _ _ n3 hsx2 hold hone ?_)
  refine bodyPost_ret (results_inode rfl _ _ (w.heap.size + 1) x _ _ rfl hd hx15) rfl ?_
  exact ⟨by rw [HS.out.1, HS.out.2]; rfl, hb⟩

theorem wpList_load_mid_want {ops : Array Oper} {rest : List Oper} {op : Oper} {a : Act} {w : World} {Q : Exit → Act → World → Prop} (hw : Region.wanted op (yielded ops a.tmps) = true) (ty : TypeId) (x : Operand) (ho : op.op = .load ty x)
    (b o : Nat) (hx : a.eval x = .pointer (some ⟨b, o, none⟩)) (cs : List Value) (d : TypeDesc) (hc : w.rangeAt b o cs)
    (hu : Try.prog.underlying ty = some d) (hd : d.isRow = true) (hi : (Try.prog.info? ty).map (·.size) = some cs.length)
    (h : wpList Try.prog ops Q rest (a.put op.dst (.agg cs.toArray)) w) : wpList Try.prog ops Q (op :: rest) a w :=
  BigFrame.wpList_want hw fun _ hK => wp_load_mid ty x ho b o hx cs d hc hu hd hi (hK _ _ h)

/-- The inode that is tried. -/
def firstI : List FldD := [⟨.u32, 2, 3⟩, ⟨.u32, 4, 9⟩, ⟨.i64, 1, 1⟩, ⟨.i64, 4, 300⟩, ⟨.u32, 4, 0⟩, ⟨.i64, 4, 0⟩, ⟨.i64, 4, 0⟩, ⟨.i64, 4, 0⟩, ⟨.i64, 4, 0⟩, ⟨.i64, 4, 0⟩, ⟨.i64, 4, 0⟩, ⟨.i64, 4, 0⟩, ⟨.i64, 4, 0⟩, ⟨.i64, 4, 77⟩, ⟨.i64, 4, 0⟩]
theorem firstI_is : IsInode firstI := by
  refine ⟨rfl, fun m hm => ?_⟩
  match m, hm with
  | 0, _ => exact ⟨_, rfl, by show (0 : Int) ≤ _ ∧ _ < _; omega⟩
  | 1, _ => exact ⟨_, rfl, by show (0 : Int) ≤ _ ∧ _ < _; omega⟩
  | 2, _ => exact ⟨_, rfl, by show I64 _; unfold I64; omega⟩
  | 3, _ => exact ⟨_, rfl, by show I64 _; unfold I64; omega⟩
  | 4, _ => exact ⟨_, rfl, by show (0 : Int) ≤ _ ∧ _ < _; omega⟩
  | 5, _ => exact ⟨_, rfl, by show I64 _; unfold I64; omega⟩
  | 6, _ => exact ⟨_, rfl, by show I64 _; unfold I64; omega⟩
  | 7, _ => exact ⟨_, rfl, by show I64 _; unfold I64; omega⟩
  | 8, _ => exact ⟨_, rfl, by show I64 _; unfold I64; omega⟩
  | 9, _ => exact ⟨_, rfl, by show I64 _; unfold I64; omega⟩
  | 10, _ => exact ⟨_, rfl, by show I64 _; unfold I64; omega⟩
  | 11, _ => exact ⟨_, rfl, by show I64 _; unfold I64; omega⟩
  | 12, _ => exact ⟨_, rfl, by show I64 _; unfold I64; omega⟩
  | 13, _ => exact ⟨_, rfl, by show I64 _; unfold I64; omega⟩
  | 14, _ => exact ⟨_, rfl, by show I64 _; unfold I64; omega⟩
theorem bO_seal {k : Nat} {b : List Nat} (hk : k ≠ 0) (hb : b.length ≤ 120) : bO (sealL k b) = b := by
  unfold bO
  rw [openB_sealL hk hb, if_pos rfl, sealL_body k b hb]
theorem first_facts : (writeI firstI).2 = 0 ∧ writeI firstI = (sealL 2 (wrB firstI), 0) ∧ rdI (wrB firstI) = firstI ∧ (writeI zeroI).2 = 1 := by
  refine ⟨by decide +kernel, ?_, by kernel_rfl, by decide +kernel⟩
  exact if_neg (by decide +kernel)
theorem run_eql_first (w : World) : (binOp .eql 160 (.agg (rowV firstI).toArray) (.agg (rowV firstI).toArray)).run Try.prog w = .ok (.bool true) w := by kernel_rfl
theorem build_first (w : World) : (Instr.build 160 #[(0, .int .u32 3), (1, .int .u32 9), (2, .int .i64 1), (3, .int .i64 300), (6, .int .i64 77)]).run Try.prog w = .ok (.agg (cellsF firstI)) w := by kernel_rfl
theorem build_none (w : World) : (Instr.build 160 #[]).run Try.prog w = .ok (.agg (cellsF zeroI)) w := by kernel_rfl

set_option maxHeartbeats 1600000 in
theorem awake5_true (w : World) : Calls Try.prog 46 #[] w fun e w' => e = .returned (.bool true) ∧ Below w.heap.size w w' := by
  have hz := zero_sector
  have hzi := zero_inode
  have hb1 := build_first
  have hb2 := build_none
  obtain ⟨d, hd1, hd2⟩ := row_inode
  obtain ⟨f1, f2, f3, f4⟩ := first_facts
  have HF := Lib.hid (And.intro f1 (And.intro f2 (And.intro f3 f4)))
  clear f1 f2 f3 f4
  go_enter Try.func46, Try.ntmps46
  have hsz0 : (cellsF zeroI).size = 15 := rfl
  have hfold : (((((cellsF zeroI).setIfInBounds 0 (.int .u32 3)).setIfInBounds 1 (.int .u32 9)).setIfInBounds 2 (.int .i64 1)).setIfInBounds 3 (.int .i64 300)).setIfInBounds 13 (.int .i64 77) = cellsF firstI := by kernel_rfl
  have hsz1 : (Try.prog.info? 160).map (·.size) = some (cellsF firstI).size := by kernel_rfl
  have hsi1 : (Try.prog.info? 160).map (·.size) = some (rowV firstI).length := by kernel_rfl
  have hone := cellsF_one firstI
  have n0 := heap_alloc_new w (.cells (cellsF zeroI) 160)
  have b1 := below_box w (.cells (cellsF firstI) 160)
  have n1 := heap_alloc_new w (.cells (cellsF firstI) 160)
  have e1 := World.setRow_alloc_new w (cellsF zeroI) (cellsF firstI) 160
  obtain ⟨w1, hw1⟩ : ∃ w1, w.alloc (.cells (cellsF firstI) 160) = w1 := ⟨_, rfl⟩
  have hs1 : w1.heap.size = w.heap.size + 1 := by rw [← hw1]; simp
  rw [hw1] at b1 n1 e1
  have hr1 := rowV_range n1
  clear hw1
  go_wp2_with (first
    | (refine wpList_store_row rfl 160 _ _ rfl w.heap.size (cellsF firstI) rfl rfl _ _ n0 hsz1 rfl hone ?_; rw [e1])
    | refine wpList_load_mid rfl 160 _ rfl w.heap.size 0 rfl (rowV firstI) d hr1 hd1 hd2 hsi1 ?_)
  refine (writeInode_is firstI_is w1).mono ?_
  rintro e w2 ⟨rfl, b2⟩
  have HS : Hid ((writeI firstI).1 = sealL 2 (wrB firstI)) := by show _ = _; rw [HF.out.2.1]
  have hS8 : (sealL 2 (wrB firstI)).length = 128 := sealL_length (by rw [wrB_length]; decide)
  have hSB : Hid (Bytes (sealL 2 (wrB firstI))) := by
    refine sealL_bytes (by decide) ?_ (by rw [wrB_length]; decide)
    have : wrB firstI = [3, 0, 9, 0, 0, 0, 1, 44, 1, 0, 0, 0, 0, 0, 0, 0, 0, 0, 0, 0, 0, 0, 0, 0, 0, 0, 0, 0, 0, 0, 0, 0, 0, 0, 0, 0, 0, 0, 0, 0, 0, 0, 0, 0, 0, 0, 0, 77, 0, 0, 0, 0, 0, 0, 0] := by decide +kernel
    rw [this]
    intro x hx
    revert x
    decide
  have HRD : Hid (readI (sealL 2 (wrB firstI)) = (firstI, 0)) := by
    show _ = _
    unfold readI
    rw [bO_seal (by decide) (by rw [wrB_length]; decide), HF.out.2.2.1, HF.out.2.1, if_pos ⟨rfl, rfl⟩]
  rw [HS.out, HF.out.1]
  obtain ⟨S, hSe⟩ : ∃ S, sealL 2 (wrB firstI) = S := ⟨_, rfl⟩
  rw [hSe] at hS8 hSB HRD ⊢
  have n12 := (b2.block w.heap.size (by omega)).trans n1
  have HB2 : Hid (Below w.heap.size w w2) := b1.trans (b2.mono b1.size)
  have hs2 : w.heap.size + 1 ≤ w2.heap.size := by have := b2.size; omega
  have nn := heap_alloc_new w2 (.cells (cells noughts) 43)
  have b3 := below_box w2 (.cells (cells S) 43)
  have n3 := heap_alloc_new w2 (.cells (cells S) 43)
  have e3 := World.setRow_alloc_new w2 (cells noughts) (cells S) 43
  obtain ⟨w3, hw3⟩ : ∃ w3, w2.alloc (.cells (cells S) 43) = w3 := ⟨_, rfl⟩
  rw [hw3] at b3 n3 e3
  have n13 := (b3.block w.heap.size (by omega)).trans n12
  have HB3 : Hid (Below w.heap.size w w3) := HB2.out.trans (b3.mono HB2.out.size)
  have HC3 := Lib.hid (block_cells hS8 n3)
  have hs3 : w.heap.size + 1 ≤ w3.heap.size := Nat.le_trans hs2 b3.size
  clear b1 n1 b2 n12 HB2 b3 hw3 hSe n0 e1 hr1 HS hs1
  go_wp2_with (first
    | (refine wpList_store_sector rfl _ _ rfl w2.heap.size S rfl rfl hS8 _ _ nn rfl ?_; rw [e3])
    | refine wpList_load_sector rfl _ rfl w2.heap.size 0 S rfl hS8 HC3.out ?_)
  refine (readInode_is S hS8 hSB.out w3).mono ?_
  rintro e w4 ⟨rfl, b4⟩
  rw [HRD.out]
  have n14 := (b4.block w.heap.size (by omega)).trans n13
  have HB4 : Hid (Below w.heap.size w w4) := HB3.out.trans (b4.mono HB3.out.size)
  have hs4 : w.heap.size + 1 ≤ w4.heap.size := Nat.le_trans hs3 b4.size
  have n04 := heap_alloc_new w4 (.cells (cellsF zeroI) 160)
  have b5 := below_box w4 (.cells (cellsF firstI) 160)
  have n5 := heap_alloc_new w4 (.cells (cellsF firstI) 160)
  have e5 := World.setRow_alloc_new w4 (cellsF zeroI) (cellsF firstI) 160
  obtain ⟨w5, hw5⟩ : ∃ w5, w4.alloc (.cells (cellsF firstI) 160) = w5 := ⟨_, rfl⟩
  rw [hw5] at b5 n5 e5
  have n15 := (b5.block w.heap.size (by omega)).trans n14
  have HB5 : Hid (Below w.heap.size w w5) := HB4.out.trans (b5.mono HB4.out.size)
  have hs5 : w4.heap.size < w5.heap.size := (Array.getElem?_eq_some_iff.1 n5).1
  clear n13 HB3 HC3 hs3 b4 n14 HB4 b5 hw5 nn n3 e3
  go_wp2_with (refine wpList_store_row rfl 160 _ _ rfl w4.heap.size (cellsF firstI) rfl rfl _ _ n04 hsz1 rfl hone ?_; rw [e5])
  refine (writeInode_is zeroI_is w5).mono ?_
  rintro e w6 ⟨rfl, b6⟩
  have hz8 := writeI_length zeroI zeroI_is
  rw [HF.out.2.2.2]
  obtain ⟨Z, hZ⟩ : ∃ Z, (writeI zeroI).1 = Z := ⟨_, rfl⟩
  rw [hZ] at hz8 ⊢
  have n16 := (b6.block w.heap.size (by omega)).trans n15
  have n56 := (b6.block w4.heap.size hs5).trans n5
  have HB6 : Hid (Below w.heap.size w w6) := HB5.out.trans (b6.mono HB5.out.size)
  have hs6 : w4.heap.size < w6.heap.size := Nat.lt_of_lt_of_le hs5 b6.size
  have nn := heap_alloc_new w6 (.cells (cells noughts) 43)
  have b7 := below_box w6 (.cells (cells Z) 43)
  have e7 := World.setRow_alloc_new w6 (cells noughts) (cells Z) 43
  obtain ⟨w7, hw7⟩ : ∃ w7, w6.alloc (.cells (cells Z) 43) = w7 := ⟨_, rfl⟩
  rw [hw7] at b7 e7
  have n17 := (b7.block w.heap.size (by omega)).trans n16
  have n57 := (b7.block w4.heap.size hs6).trans n56
  have HB7 : Hid (Below w.heap.size w w7) := HB6.out.trans (b7.mono HB6.out.size)
  have hr17 := rowV_range n17
  have hr57 := rowV_range n57
  have heq := run_eql_first
  clear n15 n5 HB5 b6 n16 n56 HB6 b7 hw7 n04 e5 hZ
  go_wp2_with (first
    | (refine wpList_store_sector rfl _ _ rfl w6.heap.size Z rfl rfl hz8 _ _ nn rfl ?_; rw [e7])
    | refine wpList_load_mid_want rfl 160 _ rfl w.heap.size 0 rfl (rowV firstI) d hr17 hd1 hd2 hsi1 ?_
    | refine wpList_load_mid_want rfl 160 _ rfl w4.heap.size 0 rfl (rowV firstI) d hr57 hd1 hd2 hsi1 ?_)
  go_ret
  exact ⟨rfl, HB7.out⟩
end Go.Proofs.Ytpnafikmbbnecaa
