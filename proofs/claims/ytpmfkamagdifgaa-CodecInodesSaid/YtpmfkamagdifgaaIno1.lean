/- Inodes: their fields one by one; equal ones are equal; the law's Inode. -/
import Derived.Test.YtpmfkamagdifgaaListBase
import Derived.Test.YtpmfkamagdifgaaAwake5
import Derived.Test.YtpmfkamagdifgaaOpened
import Derived.Lib.QuietBelow
import Derived.BigQuiet
namespace Go.Proofs.Ytpmfkamagdifgaa
open Go.ChangeShapes Go.WideShapes Go.RowKit Go.Deep Go.Sort
set_option linter.unusedVariables false
set_option linter.unusedSimpArgs false
set_option maxRecDepth 100000

theorem size_rino : (Try.prog.info? 80).map (·.size) = some 15 := by kernel_rfl
theorem row_rino : ∃ d, Try.prog.underlying 80 = some d ∧ d.isRow = true := by
  cases h : Try.prog.underlying 80 with
  | none => exact absurd h (by decide)
  | some d =>
    refine ⟨d, rfl, ?_⟩
    have : (Try.prog.underlying 80).map (·.isRow) = some true := by kernel_rfl
    rw [h] at this
    simpa using this
theorem zero_rino (w : World) : (zeroValue 80).run Try.prog w = .ok (.agg (cellsF zeroI)) w := by kernel_rfl
theorem build_rino (w : World) : (Instr.build 80 #[]).run Try.prog w = .ok (.agg (cellsF zeroI)) w := by kernel_rfl
theorem results_rino {fn : Func} {p u : Tmp} (h : fn.results = #[.cell p 80, .tmp u]) (tmps : Array Value) (w : World) (g : Nat) (l : List FldD) (t : TypeId) (fr : Nat × Nat) (hp : tmps.getD p undef = .pointer (some ⟨g, 0, none⟩))
    (hg : w.heap[g]? = some (.cells (cellsF l) t fr)) (hl : l.length = 15) : (results fn tmps).run Try.prog w = .ok (.tuple #[.agg (cellsF l), tmps.getD u undef]) w := by
  obtain ⟨d, hd1, hd2⟩ := row_rino
  rw [results_cell_tmp h, hp]
  simp only [asAddr, Sem.run_pure, Result.andThen_ok]
  rw [run_loadVar_row w g t 80 (cellsF l) fr d hg hd1 (by cases d <;> first | rfl | exact hd2) (by rw [size_rino, cellsF_size, hl])]
  rfl
theorem results_ino1 {fn : Func} {p : Tmp} (h : fn.results = #[.cell p 82]) (tmps : Array Value) (w : World) (g : Nat) (l : List FldD) (t : TypeId) (fr : Nat × Nat) (hp : tmps.getD p undef = .pointer (some ⟨g, 0, none⟩))
    (hg : w.heap[g]? = some (.cells (cellsF l) t fr)) (hl : l.length = 15) : (results fn tmps).run Try.prog w = .ok (.agg (cellsF l)) w := by
  obtain ⟨d, hd1, hd2⟩ := row_inode
  exact results_cell_row h tmps w g t (cellsF l) fr d hp hg hd1 (by cases d <;> first | rfl | exact hd2) (by rw [size_inode, cellsF_size, hl])
theorem ino_list {l : List FldD} (h : IsInode l) : ∃ z0 z1 z2 z3 z4 z5 z6 z7 z8 z9 z10 z11 z12 z13 z14 : Int, l = [⟨.u32, 2, z0⟩, ⟨.u32, 4, z1⟩, ⟨.i64, 1, z2⟩, ⟨.i64, 4, z3⟩, ⟨.u32, 4, z4⟩, ⟨.i64, 4, z5⟩, ⟨.i64, 4, z6⟩, ⟨.i64, 4, z7⟩, ⟨.i64, 4, z8⟩, ⟨.i64, 4, z9⟩, ⟨.i64, 4, z10⟩, ⟨.i64, 4, z11⟩, ⟨.i64, 4, z12⟩, ⟨.i64, 4, z13⟩, ⟨.i64, 4, z14⟩] ∧ (0 ≤ z0 ∧ z0 < 4294967296) ∧ (0 ≤ z1 ∧ z1 < 4294967296) ∧ I64 z2 ∧ I64 z3 ∧ (0 ≤ z4 ∧ z4 < 4294967296) ∧ I64 z5 ∧ I64 z6 ∧ I64 z7 ∧ I64 z8 ∧ I64 z9 ∧ I64 z10 ∧ I64 z11 ∧ I64 z12 ∧ I64 z13 ∧ I64 z14 := by
  obtain ⟨hl, h⟩ := h
  match l, hl with
  | [a0, a1, a2, a3, a4, a5, a6, a7, a8, a9, a10, a11, a12, a13, a14], _ =>
    obtain ⟨z0, e0, k0⟩ := h 0 (by decide)
    have f0 : a0 = ⟨.u32, 2, z0⟩ := Option.some.inj e0
    obtain ⟨z1, e1, k1⟩ := h 1 (by decide)
    have f1 : a1 = ⟨.u32, 4, z1⟩ := Option.some.inj e1
    obtain ⟨z2, e2, k2⟩ := h 2 (by decide)
    have f2 : a2 = ⟨.i64, 1, z2⟩ := Option.some.inj e2
    obtain ⟨z3, e3, k3⟩ := h 3 (by decide)
    have f3 : a3 = ⟨.i64, 4, z3⟩ := Option.some.inj e3
    obtain ⟨z4, e4, k4⟩ := h 4 (by decide)
    have f4 : a4 = ⟨.u32, 4, z4⟩ := Option.some.inj e4
    obtain ⟨z5, e5, k5⟩ := h 5 (by decide)
    have f5 : a5 = ⟨.i64, 4, z5⟩ := Option.some.inj e5
    obtain ⟨z6, e6, k6⟩ := h 6 (by decide)
    have f6 : a6 = ⟨.i64, 4, z6⟩ := Option.some.inj e6
    obtain ⟨z7, e7, k7⟩ := h 7 (by decide)
    have f7 : a7 = ⟨.i64, 4, z7⟩ := Option.some.inj e7
    obtain ⟨z8, e8, k8⟩ := h 8 (by decide)
    have f8 : a8 = ⟨.i64, 4, z8⟩ := Option.some.inj e8
    obtain ⟨z9, e9, k9⟩ := h 9 (by decide)
    have f9 : a9 = ⟨.i64, 4, z9⟩ := Option.some.inj e9
    obtain ⟨z10, e10, k10⟩ := h 10 (by decide)
    have f10 : a10 = ⟨.i64, 4, z10⟩ := Option.some.inj e10
    obtain ⟨z11, e11, k11⟩ := h 11 (by decide)
    have f11 : a11 = ⟨.i64, 4, z11⟩ := Option.some.inj e11
    obtain ⟨z12, e12, k12⟩ := h 12 (by decide)
    have f12 : a12 = ⟨.i64, 4, z12⟩ := Option.some.inj e12
    obtain ⟨z13, e13, k13⟩ := h 13 (by decide)
    have f13 : a13 = ⟨.i64, 4, z13⟩ := Option.some.inj e13
    obtain ⟨z14, e14, k14⟩ := h 14 (by decide)
    have f14 : a14 = ⟨.i64, 4, z14⟩ := Option.some.inj e14
    subst f0 f1 f2 f3 f4 f5 f6 f7 f8 f9 f10 f11 f12 f13 f14
    exact ⟨z0, z1, z2, z3, z4, z5, z6, z7, z8, z9, z10, z11, z12, z13, z14, rfl, k0, k1, k2, k3, k4, k5, k6, k7, k8, k9, k10, k11, k12, k13, k14⟩
theorem ino_of_list (z0 z1 z2 z3 z4 z5 z6 z7 z8 z9 z10 z11 z12 z13 z14 : Int) (h : (0 ≤ z0 ∧ z0 < 4294967296) ∧ (0 ≤ z1 ∧ z1 < 4294967296) ∧ I64 z2 ∧ I64 z3 ∧ (0 ≤ z4 ∧ z4 < 4294967296) ∧ I64 z5 ∧ I64 z6 ∧ I64 z7 ∧ I64 z8 ∧ I64 z9 ∧ I64 z10 ∧ I64 z11 ∧ I64 z12 ∧ I64 z13 ∧ I64 z14) : IsInode [⟨.u32, 2, z0⟩, ⟨.u32, 4, z1⟩, ⟨.i64, 1, z2⟩, ⟨.i64, 4, z3⟩, ⟨.u32, 4, z4⟩, ⟨.i64, 4, z5⟩, ⟨.i64, 4, z6⟩, ⟨.i64, 4, z7⟩, ⟨.i64, 4, z8⟩, ⟨.i64, 4, z9⟩, ⟨.i64, 4, z10⟩, ⟨.i64, 4, z11⟩, ⟨.i64, 4, z12⟩, ⟨.i64, 4, z13⟩, ⟨.i64, 4, z14⟩] := by
  obtain ⟨k0, k1, k2, k3, k4, k5, k6, k7, k8, k9, k10, k11, k12, k13, k14⟩ := h
  refine ⟨rfl, fun m hm => ?_⟩
  match m, hm with
  | 0, _ => exact ⟨_, rfl, k0⟩
  | 1, _ => exact ⟨_, rfl, k1⟩
  | 2, _ => exact ⟨_, rfl, k2⟩
  | 3, _ => exact ⟨_, rfl, k3⟩
  | 4, _ => exact ⟨_, rfl, k4⟩
  | 5, _ => exact ⟨_, rfl, k5⟩
  | 6, _ => exact ⟨_, rfl, k6⟩
  | 7, _ => exact ⟨_, rfl, k7⟩
  | 8, _ => exact ⟨_, rfl, k8⟩
  | 9, _ => exact ⟨_, rfl, k9⟩
  | 10, _ => exact ⟨_, rfl, k10⟩
  | 11, _ => exact ⟨_, rfl, k11⟩
  | 12, _ => exact ⟨_, rfl, k12⟩
  | 13, _ => exact ⟨_, rfl, k13⟩
  | 14, _ => exact ⟨_, rfl, k14⟩
theorem cellsF_ino (z0 z1 z2 z3 z4 z5 z6 z7 z8 z9 z10 z11 z12 z13 z14 : Int) : cellsF [⟨.u32, 2, z0⟩, ⟨.u32, 4, z1⟩, ⟨.i64, 1, z2⟩, ⟨.i64, 4, z3⟩, ⟨.u32, 4, z4⟩, ⟨.i64, 4, z5⟩, ⟨.i64, 4, z6⟩, ⟨.i64, 4, z7⟩, ⟨.i64, 4, z8⟩, ⟨.i64, 4, z9⟩, ⟨.i64, 4, z10⟩, ⟨.i64, 4, z11⟩, ⟨.i64, 4, z12⟩, ⟨.i64, 4, z13⟩, ⟨.i64, 4, z14⟩] = #[.int .u32 z0, .int .u32 z1, .int .i64 z2, .int .i64 z3, .int .u32 z4, .int .i64 z5, .int .i64 z6, .int .i64 z7, .int .i64 z8, .int .i64 z9, .int .i64 z10, .int .i64 z11, .int .i64 z12, .int .i64 z13, .int .i64 z14] := rfl
set_option maxHeartbeats 1600000 in
theorem run_eq1 (d : Nat) (z : Int) (w : World) : (Op.equalIn (d + 1) 3 (.int .i64 z) (.int .i64 z)).run Try.prog w = .ok true w := by
  simp [Op.equalIn, run_underlying Try.underlying3]
theorem run_size1 (w : World) : (sizeOf 3).run Try.prog w = .ok 1 w := by kernel_rfl
theorem run_agg1 (w : World) : (isAgg 3).run Try.prog w = .ok false w := by kernel_rfl
theorem run_part1 {cs : Array Value} {k : Nat} {z : Int} (h : cs[k]? = some (.int .i64 z)) (w : World) : (part 3 cs k).run Try.prog w = .ok (.int .i64 z) w := by
  unfold part
  simp only [Sem.run_bind, run_agg1, Result.andThen_ok]
  rw [if_neg (by decide), h]
  rfl
theorem run_loop8 {zs : List Int} (hl : zs.length = 8) (d : Nat) (w : World) (F : Option Bool × Unit → World → Result Bool)
    (h1 : F (none, ()) w = .ok true w) : ∀ m k : Nat, k + m = 8 →
      ((forIn (m := Sem) (List.range' k m 1) ((none : Option Bool), ()) fun i __s => do
            let x ← part 3 (numsV zs).toArray (i * 1)
            let y ← part 3 (numsV zs).toArray (i * 1)
            let r ← Op.equalIn (d + 1) 3 x y
            if (!r) = true then pure (ForInStep.done (some false, ())) else pure (ForInStep.yield (none, ()))).run Try.prog w).andThen F = .ok true w := by
  intro m
  induction m with
  | zero => intro k hk; simpa using h1
  | succ m ih =>
    intro k hk
    obtain ⟨z, e⟩ : ∃ z, zs[k]? = some z := ⟨_, List.getElem?_eq_getElem (by omega)⟩
    have hc : (numsV zs).toArray[k]? = some (.int .i64 z) := by
      rw [List.getElem?_toArray]; unfold numsV; rw [List.getElem?_map, e]; rfl
    rw [List.range'_succ, List.forIn_cons]
    simp only [Nat.mul_one, Sem.run_bind, run_part1 hc, Result.andThen_ok, run_eq1, Bool.not_true, Bool.false_eq_true, if_false, Sem.run_pure]
    have := ih (k + 1) (by omega)
    simpa using this
theorem run_eq8 {zs : List Int} (hl : zs.length = 8) (d : Nat) (w : World) :
    (Op.equalIn (d + 2) 78 (.agg (numsV zs).toArray) (.agg (numsV zs).toArray)).run Try.prog w = .ok true w := by
  unfold Op.equalIn
  simp only [Sem.run_bind, run_underlying Try.underlying78, Result.andThen_ok, run_size1]
  rw [Std.Legacy.Range.forIn_eq_forIn_range']
  refine run_loop8 hl d w _ ?_ 8 0 (by omega)
  simp
set_option maxHeartbeats 1600000 in
theorem run_eql_ino (z0 z1 z2 z3 z4 z5 z6 z7 z8 z9 z10 z11 z12 z13 z14 : Int) (w : World) : (binOp .eql 82 (.agg #[.int .u32 z0, .int .u32 z1, .int .i64 z2, .int .i64 z3, .int .u32 z4, .int .i64 z5, .int .i64 z6, .int .i64 z7, .int .i64 z8, .int .i64 z9, .int .i64 z10, .int .i64 z11, .int .i64 z12, .int .i64 z13, .int .i64 z14]) (.agg #[.int .u32 z0, .int .u32 z1, .int .i64 z2, .int .i64 z3, .int .u32 z4, .int .i64 z5, .int .i64 z6, .int .i64 z7, .int .i64 z8, .int .i64 z9, .int .i64 z10, .int .i64 z11, .int .i64 z12, .int .i64 z13, .int .i64 z14])).run Try.prog w = .ok (.bool true) w := by
  have h8 := run_eq8 (zs := [z5, z6, z7, z8, z9, z10, z11, z12]) rfl 9997 w
  have h8' : (Op.equalIn 9999 78 (.agg #[.int .i64 z5, .int .i64 z6, .int .i64 z7, .int .i64 z8, .int .i64 z9, .int .i64 z10, .int .i64 z11, .int .i64 z12]) (.agg #[.int .i64 z5, .int .i64 z6, .int .i64 z7, .int .i64 z8, .int .i64 z9, .int .i64 z10, .int .i64 z11, .int .i64 z12])).run Try.prog w = .ok true w := h8
  go_simp
theorem build_ino (z0 z1 z2 z3 z4 z5 z6 z7 z8 z9 z10 z11 z12 z13 z14 : Int) (w : World) : (Instr.build 82 #[(0, .int .u32 z0), (1, .int .u32 z1), (2, .int .i64 z2), (3, .int .i64 z3), (4, .int .u32 z4), (5, .agg #[.int .i64 z5, .int .i64 z6, .int .i64 z7, .int .i64 z8, .int .i64 z9, .int .i64 z10, .int .i64 z11, .int .i64 z12]), (6, .int .i64 z13), (7, .int .i64 z14)]).run Try.prog w = .ok (.agg #[.int .u32 z0, .int .u32 z1, .int .i64 z2, .int .i64 z3, .int .u32 z4, .int .i64 z5, .int .i64 z6, .int .i64 z7, .int .i64 z8, .int .i64 z9, .int .i64 z10, .int .i64 z11, .int .i64 z12, .int .i64 z13, .int .i64 z14]) w := by kernel_rfl
theorem wpList_build_ino {ops : Array Oper} {rest : List Oper} {o : Oper} {a : Act} {w : World} {Q : Exit → Act → World → Prop} (hgd : o.guard = none) (x0 x1 x2 x3 x4 x5 x6 x7 : Operand) (ho : o.op = .build 82 #[(0, x0), (1, x1), (2, x2), (3, x3), (4, x4), (5, x5), (6, x6), (7, x7)])
    (z0 z1 z2 z3 z4 z5 z6 z7 z8 z9 z10 z11 z12 z13 z14 : Int) (h0 : a.eval x0 = .int .u32 z0) (h1 : a.eval x1 = .int .u32 z1) (h2 : a.eval x2 = .int .i64 z2) (h3 : a.eval x3 = .int .i64 z3) (h4 : a.eval x4 = .int .u32 z4) (h5 : a.eval x5 = .agg #[.int .i64 z5, .int .i64 z6, .int .i64 z7, .int .i64 z8, .int .i64 z9, .int .i64 z10, .int .i64 z11, .int .i64 z12]) (h6 : a.eval x6 = .int .i64 z13) (h7 : a.eval x7 = .int .i64 z14)
    (h : wpList Try.prog ops Q rest (a.put o.dst (.agg #[.int .u32 z0, .int .u32 z1, .int .i64 z2, .int .i64 z3, .int .u32 z4, .int .i64 z5, .int .i64 z6, .int .i64 z7, .int .i64 z8, .int .i64 z9, .int .i64 z10, .int .i64 z11, .int .i64 z12, .int .i64 z13, .int .i64 z14])) w) : wpList Try.prog ops Q (o :: rest) a w := by
  refine wpList_plain hgd fun K hK => ?_
  unfold Oper.wp execOp
  have e : ((#[(0, x0), (1, x1), (2, x2), (3, x3), (4, x4), (5, x5), (6, x6), (7, x7)] : Array (Nat × Operand)).map fun (i, x) => (i, a.eval x)) = #[(0, .int .u32 z0), (1, .int .u32 z1), (2, .int .i64 z2), (3, .int .i64 z3), (4, .int .u32 z4), (5, .agg #[.int .i64 z5, .int .i64 z6, .int .i64 z7, .int .i64 z8, .int .i64 z9, .int .i64 z10, .int .i64 z11, .int .i64 z12]), (6, .int .i64 z13), (7, .int .i64 z14)] := by simp [h0, h1, h2, h3, h4, h5, h6, h7]
  simp only [ho, Sem.run_bind, e, build_ino z0 z1 z2 z3 z4 z5 z6 z7 z8 z9 z10 z11 z12 z13 z14 w, Result.andThen_ok]
  exact hK _ _ h
set_option maxHeartbeats 1600000 in
theorem inode_own {l : List FldD} (hl : IsInode l) (w : World) :
    Calls Try.prog 34 #[.agg (cellsF l)] w fun e w' => e = .returned (.agg (cellsF l)) ∧ Below w.heap.size w w' := by
  obtain ⟨z0, z1, z2, z3, z4, z5, z6, z7, z8, z9, z10, z11, z12, z13, z14, rfl, hk⟩ := ino_list hl
  have hzi := zero_inode
  rw [cellsF_ino]
  have b1 := below_box w (.cells #[.int .u32 z0, .int .u32 z1, .int .i64 z2, .int .i64 z3, .int .u32 z4, .int .i64 z5, .int .i64 z6, .int .i64 z7, .int .i64 z8, .int .i64 z9, .int .i64 z10, .int .i64 z11, .int .i64 z12, .int .i64 z13, .int .i64 z14] 80)
  have nl := heap_alloc_new w (.cells #[.int .u32 z0, .int .u32 z1, .int .i64 z2, .int .i64 z3, .int .u32 z4, .int .i64 z5, .int .i64 z6, .int .i64 z7, .int .i64 z8, .int .i64 z9, .int .i64 z10, .int .i64 z11, .int .i64 z12, .int .i64 z13, .int .i64 z14] 80)
  obtain ⟨w1, hw1⟩ : ∃ x, w.alloc (.cells #[.int .u32 z0, .int .u32 z1, .int .i64 z2, .int .i64 z3, .int .u32 z4, .int .i64 z5, .int .i64 z6, .int .i64 z7, .int .i64 z8, .int .i64 z9, .int .i64 z10, .int .i64 z11, .int .i64 z12, .int .i64 z13, .int .i64 z14] 80) = x := ⟨_, rfl⟩
  have hs1 : w1.heap.size = w.heap.size + 1 := by rw [← hw1]; simp
  rw [hw1] at b1 nl
  have b2 := below_box w1 (.cells (cellsF zeroI) 82)
  have n2 := heap_alloc_new w1 (.cells (cellsF zeroI) 82)
  have nl' := (b2.block w.heap.size (by omega)).trans nl
  clear nl
  have nl := nl'
  clear nl'
  have HB := Lib.hid (below_next b1 b2)
  obtain ⟨w2, hw2⟩ : ∃ x, w1.alloc (.cells (cellsF zeroI) 82) = x := ⟨_, rfl⟩
  rw [hw2] at n2 nl HB
  rw [hs1] at n2
  have nl_0 : w2.cell? ⟨w.heap.size, 0, none⟩ = some (.int .u32 z0) := (cell_of_row nl 0).trans rfl
  have nl_1 : w2.cell? ⟨w.heap.size, 1, none⟩ = some (.int .u32 z1) := (cell_of_row nl 1).trans rfl
  have nl_2 : w2.cell? ⟨w.heap.size, 2, none⟩ = some (.int .i64 z2) := (cell_of_row nl 2).trans rfl
  have nl_3 : w2.cell? ⟨w.heap.size, 3, none⟩ = some (.int .i64 z3) := (cell_of_row nl 3).trans rfl
  have nl_4 : w2.cell? ⟨w.heap.size, 4, none⟩ = some (.int .u32 z4) := (cell_of_row nl 4).trans rfl
  have nl_5 : w2.cell? ⟨w.heap.size, 5, none⟩ = some (.int .i64 z5) := (cell_of_row nl 5).trans rfl
  have nl_6 : w2.cell? ⟨w.heap.size, 6, none⟩ = some (.int .i64 z6) := (cell_of_row nl 6).trans rfl
  have nl_7 : w2.cell? ⟨w.heap.size, 7, none⟩ = some (.int .i64 z7) := (cell_of_row nl 7).trans rfl
  have nl_8 : w2.cell? ⟨w.heap.size, 8, none⟩ = some (.int .i64 z8) := (cell_of_row nl 8).trans rfl
  have nl_9 : w2.cell? ⟨w.heap.size, 9, none⟩ = some (.int .i64 z9) := (cell_of_row nl 9).trans rfl
  have nl_10 : w2.cell? ⟨w.heap.size, 10, none⟩ = some (.int .i64 z10) := (cell_of_row nl 10).trans rfl
  have nl_11 : w2.cell? ⟨w.heap.size, 11, none⟩ = some (.int .i64 z11) := (cell_of_row nl 11).trans rfl
  have nl_12 : w2.cell? ⟨w.heap.size, 12, none⟩ = some (.int .i64 z12) := (cell_of_row nl 12).trans rfl
  have nl_13 : w2.cell? ⟨w.heap.size, 13, none⟩ = some (.int .i64 z13) := (cell_of_row nl 13).trans rfl
  have nl_14 : w2.cell? ⟨w.heap.size, 14, none⟩ = some (.int .i64 z14) := (cell_of_row nl 14).trans rfl
  have hone := cellsF_one [⟨.u32, 2, z0⟩, ⟨.u32, 4, z1⟩, ⟨.i64, 1, z2⟩, ⟨.i64, 4, z3⟩, ⟨.u32, 4, z4⟩, ⟨.i64, 4, z5⟩, ⟨.i64, 4, z6⟩, ⟨.i64, 4, z7⟩, ⟨.i64, 4, z8⟩, ⟨.i64, 4, z9⟩, ⟨.i64, 4, z10⟩, ⟨.i64, 4, z11⟩, ⟨.i64, 4, z12⟩, ⟨.i64, 4, z13⟩, ⟨.i64, 4, z14⟩]
  have hszc : (Try.prog.info? 82).map (·.size) = some (cellsF [⟨.u32, 2, z0⟩, ⟨.u32, 4, z1⟩, ⟨.i64, 1, z2⟩, ⟨.i64, 4, z3⟩, ⟨.u32, 4, z4⟩, ⟨.i64, 4, z5⟩, ⟨.i64, 4, z6⟩, ⟨.i64, 4, z7⟩, ⟨.i64, 4, z8⟩, ⟨.i64, 4, z9⟩, ⟨.i64, 4, z10⟩, ⟨.i64, 4, z11⟩, ⟨.i64, 4, z12⟩, ⟨.i64, 4, z13⟩, ⟨.i64, 4, z14⟩]).size := by kernel_rfl
  have hold : (cellsF zeroI).size = (cellsF [⟨.u32, 2, z0⟩, ⟨.u32, 4, z1⟩, ⟨.i64, 1, z2⟩, ⟨.i64, 4, z3⟩, ⟨.u32, 4, z4⟩, ⟨.i64, 4, z5⟩, ⟨.i64, 4, z6⟩, ⟨.i64, 4, z7⟩, ⟨.i64, 4, z8⟩, ⟨.i64, 4, z9⟩, ⟨.i64, 4, z10⟩, ⟨.i64, 4, z11⟩, ⟨.i64, 4, z12⟩, ⟨.i64, 4, z13⟩, ⟨.i64, 4, z14⟩]).size := rfl
  rw [cellsF_ino] at hone hszc hold
  have hd9 := setRow_heap w2 (w.heap.size + 1) _ #[.int .u32 z0, .int .u32 z1, .int .i64 z2, .int .i64 z3, .int .u32 z4, .int .i64 z5, .int .i64 z6, .int .i64 z7, .int .i64 z8, .int .i64 z9, .int .i64 z10, .int .i64 z11, .int .i64 z12, .int .i64 z13, .int .i64 z14] _ _ n2
  have hb9 := below_setRow (g := w.heap.size + 1) HB.out (by omega) #[.int .u32 z0, .int .u32 z1, .int .i64 z2, .int .i64 z3, .int .u32 z4, .int .i64 z5, .int .i64 z6, .int .i64 z7, .int .i64 z8, .int .i64 z9, .int .i64 z10, .int .i64 z11, .int .i64 z12, .int .i64 z13, .int .i64 z14]
  have HN2 := Lib.hid n2
  have HD9 := Lib.hid hd9
  have HSC := Lib.hid hszc
  have HOLD := Lib.hid hold
  have HONE := Lib.hid hone
  clear b1 b2 hl hk n2 nl hd9 hszc hold hone
  go_enter Try.func34, Try.ntmps34
  go_wp2_with (first | refine wpList_build_ino rfl _ _ _ _ _ _ _ _ rfl z0 z1 z2 z3 z4 z5 z6 z7 z8 z9 z10 z11 z12 z13 z14 rfl rfl rfl rfl rfl rfl rfl rfl ?_ | refine wpList_store_row rfl 82 _ _ rfl (w.heap.size + 1) #[.int .u32 z0, .int .u32 z1, .int .i64 z2, .int .i64 z3, .int .u32 z4, .int .i64 z5, .int .i64 z6, .int .i64 z7, .int .i64 z8, .int .i64 z9, .int .i64 z10, .int .i64 z11, .int .i64 z12, .int .i64 z13, .int .i64 z14] rfl rfl _ _ HN2.out HSC.out HOLD.out HONE.out ?_)
  refine bodyPost_ret (results_ino1 rfl _ _ (w.heap.size + 1) [⟨.u32, 2, z0⟩, ⟨.u32, 4, z1⟩, ⟨.i64, 1, z2⟩, ⟨.i64, 4, z3⟩, ⟨.u32, 4, z4⟩, ⟨.i64, 4, z5⟩, ⟨.i64, 4, z6⟩, ⟨.i64, 4, z7⟩, ⟨.i64, 4, z8⟩, ⟨.i64, 4, z9⟩, ⟨.i64, 4, z10⟩, ⟨.i64, 4, z11⟩, ⟨.i64, 4, z12⟩, ⟨.i64, 4, z13⟩, ⟨.i64, 4, z14⟩] _ _ rfl HD9.out rfl) rfl ?_
  exact ⟨rfl, hb9⟩
end Go.Proofs.Ytpmfkamagdifgaa
