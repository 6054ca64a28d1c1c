/- A region's header, read as the document says: the walk. -/
import Derived.Test.YtpmfkamagdifgaaHead4
import Derived.StillTailTactics
namespace Go.Proofs.Ytpmfkamagdifgaa
open Go.RowKit Go.Sort
set_option linter.unusedVariables false
set_option linter.unusedSimpArgs false
set_option maxRecDepth 100000

theorem size_rhead : (Try.prog.info? 69).map (·.size) = some 6 := by kernel_rfl
theorem row_rhead : ∃ d, Try.prog.underlying 69 = some d ∧ d.isRow = true := by
  cases h : Try.prog.underlying 69 with
  | none => exact absurd h (by decide)
  | some d =>
    refine ⟨d, rfl, ?_⟩
    have : (Try.prog.underlying 69).map (·.isRow) = some true := by kernel_rfl
    rw [h] at this
    simpa using this
theorem zero_rhead (w : World) : (zeroValue 69).run Try.prog w = .ok (.agg (cellsF zeroH)) w := by kernel_rfl
theorem build_rhead (w : World) : (Instr.build 69 #[]).run Try.prog w = .ok (.agg (cellsF zeroH)) w := by kernel_rfl
theorem results_rhead {fn : Func} {p u : Tmp} (h : fn.results = #[.cell p 69, .tmp u]) (tmps : Array Value) (w : World) (g : Nat) (l : List FldD) (t : TypeId) (fr : Nat × Nat) (hp : tmps.getD p undef = .pointer (some ⟨g, 0, none⟩))
    (hg : w.heap[g]? = some (.cells (cellsF l) t fr)) (hl : l.length = 6) : (results fn tmps).run Try.prog w = .ok (.tuple #[.agg (cellsF l), tmps.getD u undef]) w := by
  obtain ⟨d, hd1, hd2⟩ := row_rhead
  rw [results_cell_tmp h, hp]
  simp only [asAddr, Sem.run_pure, Result.andThen_ok]
  rw [run_loadVar_row w g t 69 (cellsF l) fr d hg hd1 (by cases d <;> first | rfl | exact hd2) (by rw [size_rhead, cellsF_size, hl])]
  rfl

set_option maxHeartbeats 3200000 in
theorem rreadHead_is (s : List Nat) (hs : s.length = 128) (hbs : Bytes s) (w : World) :
    Calls Try.prog 32 #[.agg (cells s)] w fun e w' => e = .returned (.tuple #[.agg (cellsF (readH s).1), .bool (isHead s)]) ∧ Below w.heap.size w w' := by
  have hz := zero_full
  have hzi := zero_rhead
  have hbld := build_rhead
  have hsz2 : ∀ l : List FldD, l.length = 6 → (Try.prog.info? 69).map (·.size) = some (cellsF l).size := fun l hl => by rw [cellsF_size, hl]; exact size_rhead
  have b1 := below_box w (.cells (cells s) 30)
  have n1 := heap_alloc_new w (.cells (cells s) 30)
  obtain ⟨w1, hw1⟩ : ∃ w1, w.alloc (.cells (cells s) 30) = w1 := ⟨_, rfl⟩
  have hs1 : w1.heap.size = w.heap.size + 1 := by rw [← hw1]; simp
  rw [hw1] at b1 n1
  have b2 := below_box w1 (.cells (cellsF zeroH) 69)
  have n2 := heap_alloc_new w1 (.cells (cellsF zeroH) 69)
  have n1' := (b2.block w.heap.size (by omega)).trans n1
  have HB := Lib.hid (below_next b1 b2)
  rw [hs1] at n2
  obtain ⟨w2, hw2⟩ : ∃ w2, w1.alloc (.cells (cellsF zeroH) 69) = w2 := ⟨_, rfl⟩
  rw [hw2] at n2 n1' HB
  have hs2 : w2.heap.size = w.heap.size + 2 := by rw [← hw2]; simp [hs1]
  have HC := Lib.hid (block_cells hs n1')
  have HYES := Lib.hid (fun h => readH_yes (s := s) hbs h)
  have HNO := Lib.hid (fun h => readH_no (s := s) hbs h)
  have hbb := bodyL_byt hbs
  clear b1 n1 b2
  go_enter Try.func32, Try.ntmps32
  go_wp2_with (refine wpList_load_full rfl (.tmp 1) rfl w.heap.size 0 s rfl hs HC.out ?_)
  refine (ropen_any s hs hbs w2).mono ?_
  rintro e w3 ⟨b3, h3⟩
  have n23 := (b3.block (w.heap.size + 1) (by omega)).trans n2
  have HB3 : Hid (Below w.heap.size w w3) := HB.out.trans (b3.mono HB.out.size)
  have hone := cellsF_one zeroH
  have hszz := hsz2 zeroH rfl
  have hd9 := setRow_heap w3 (w.heap.size + 1) _ (cellsF zeroH) _ _ n23
  have hb9 := below_setRow (g := w.heap.size + 1) HB3.out (by omega) (cellsF zeroH)
  clear b3 hw1 hw2 hs1 hs2 n2 n1' HB HC
  rcases h3 with ⟨ho, a, cap, rfl, hrd, hc, hcm⟩ | ⟨ho, rfl⟩
  · obtain ⟨kd, hkd⟩ : ∃ kd, kindL s = kd := ⟨_, rfl⟩
    obtain ⟨len, hlen⟩ : ∃ len, (bodyL s).length = len := ⟨_, rfl⟩
    rw [hkd, hlen]
    rw [hlen] at hrd hc
    unfold maxLen at hcm
    by_cases h1 : kd = 6
    · by_cases h12 : len = 26
      · subst h1 h12
        have hih : isHead s = true := by unfold isHead; rw [ho, hkd, hlen]; rfl
        have hfin := HYES.out hih
        have HF := Lib.hid hfin
        have HI := Lib.hid hih
        have hrw := hrd.below (show Below w3.heap.size w3 w3.drew from ⟨rfl, rfl, rfl, Nat.le_refl _, fun _ _ => rfl⟩)
        obtain ⟨bb, off, rfl⟩ := hrd.some_of (by decide)
        have hp0 := hrw.part 0 8 (by decide)
        have hp1 := hrw.part 8 8 (by decide)
        have hp2 := hrw.part 16 2 (by decide)
        have hp3 := hrw.part 18 2 (by decide)
        have hp4 := hrw.part 20 2 (by decide)
        have hp5 := hrw.part 22 4 (by decide)
        rw [show off + 0 = off from rfl] at hp0
        have e0 : (bodyL s).drop 0 = bodyL s := rfl
        rw [e0] at hp0
        obtain ⟨n0, hn0⟩ : ∃ n, le ((bodyL s).take 8) = n := ⟨_, rfl⟩
        have hl0 : n0 < 18446744073709551616 := by
          rw [← hn0]
          have h := le_lt _ (hp0.2.1)
          rw [hp0.1] at h
          exact h
        have HV0 := Lib.hid hn0
        obtain ⟨n1, hn1⟩ : ∃ n, le (((bodyL s).drop 8).take 8) = n := ⟨_, rfl⟩
        have hl1 : n1 < 18446744073709551616 := by
          rw [← hn1]
          have h := le_lt _ (hp1.2.1)
          rw [hp1.1] at h
          exact h
        have HV1 := Lib.hid hn1
        obtain ⟨n2, hn2⟩ : ∃ n, le (((bodyL s).drop 16).take 2) = n := ⟨_, rfl⟩
        have hl2 : n2 < 65536 := by
          rw [← hn2]
          have h := le_lt _ (hp2.2.1)
          rw [hp2.1] at h
          exact h
        have HV2 := Lib.hid hn2
        obtain ⟨n3, hn3⟩ : ∃ n, le (((bodyL s).drop 18).take 2) = n := ⟨_, rfl⟩
        have hl3 : n3 < 65536 := by
          rw [← hn3]
          have h := le_lt _ (hp3.2.1)
          rw [hp3.1] at h
          exact h
        have HV3 := Lib.hid hn3
        obtain ⟨n4, hn4⟩ : ∃ n, le (((bodyL s).drop 20).take 2) = n := ⟨_, rfl⟩
        have hl4 : n4 < 65536 := by
          rw [← hn4]
          have h := le_lt _ (hp4.2.1)
          rw [hp4.1] at h
          exact h
        have HV4 := Lib.hid hn4
        obtain ⟨n5, hn5⟩ : ∃ n, le (((bodyL s).drop 22).take 4) = n := ⟨_, rfl⟩
        have hl5 : n5 < 4294967296 := by
          rw [← hn5]
          have h := le_lt _ (hp5.2.1)
          rw [hp5.1] at h
          exact h
        have HV5 := Lib.hid hn5
        have hX : Hid (headOf (bodyL s) = [⟨.u64, 8, (n0 : Int)⟩, ⟨.u64, 8, (n1 : Int)⟩, ⟨.i64, 2, (n2 : Int)⟩, ⟨.i64, 2, (n3 : Int)⟩, ⟨.i64, 2, (n4 : Int)⟩, ⟨.u32, 4, (n5 : Int)⟩]) := by
          show headOf (bodyL s) = _
          unfold headOf
          rw [hn0, hn1, hn2, hn3, hn4, hn5]
        obtain ⟨L, hL⟩ : ∃ L, headOf (bodyL s) = L := ⟨_, rfl⟩
        have HF2 : Hid (readH s = (L, 0)) := by show _ = _; rw [← hL]; exact hfin
        have hX2 := hX.out
        rw [hL] at hX2
        have hL6 : L.length = 6 := by rw [hX2]; rfl
        have hcap : 26 ≤ cap := hc
        have hw2 : IntKind.i64.wrap (n2 : Int) = n2 := IntWalk.i64_in _ (by omega)
        have hw3 : IntKind.i64.wrap (n3 : Int) = n3 := IntWalk.i64_in _ (by omega)
        have hw4 : IntKind.i64.wrap (n4 : Int) = n4 := IntWalk.i64_in _ (by omega)
        have hw5 : IntKind.u32.wrap (n5 : Int) = n5 := by simp [IntKind.wrap, IntKind.signed, IntKind.bits]; omega
        have hi1 : (8 : Int) ≤ cap ∧ (16 : Int) ≤ cap ∧ (18 : Int) ≤ cap ∧ (20 : Int) ≤ cap ∧ (22 : Int) ≤ cap := by omega
        have hi8 : ¬ cap = 8 := by omega
        have hi16 : ¬ cap = 16 := by omega
        have hi18 : ¬ cap = 18 := by omega
        have hi20 : ¬ cap = 20 := by omega
        have hi22 : ¬ cap = 22 := by omega
        have hsz0 : (cellsF zeroH).size = 6 := rfl
        have hfold : (((((((cellsF zeroH).setIfInBounds 0 (.int .u64 (n0 : Int))).setIfInBounds 1 (.int .u64 (n1 : Int))).setIfInBounds 2 (.int .i64 (n2 : Int))).setIfInBounds 3 (.int .i64 (n3 : Int))).setIfInBounds 4 (.int .i64 (n4 : Int))).setIfInBounds 5 (.int .u32 (n5 : Int))) = cellsF L := by rw [hX2]; rfl
        clear hfin hih hn0 hn1 hn2 hn3 hn4 hn5 hL hX2 hrd hrw e0 hc hkd hlen ho hd9 hb9
        have HN0 : ∀ c : Nat, Calls Try.prog 108 #[.slice (some ⟨bb, off, none⟩) 8 c] w3.drew fun e w'' => e = .returned (.int .u64 (n0 : Int)) ∧ w'' = w3.drew := fun c => (num_any _ 8 c _ _ hp0 (by decide)).mono fun _ _ ⟨g1, g2⟩ => ⟨by rw [g1, HV0.out], g2.symm⟩
        have HN1 : ∀ c : Nat, Calls Try.prog 108 #[.slice (some ⟨bb, off + 8, none⟩) 8 c] w3.drew fun e w'' => e = .returned (.int .u64 (n1 : Int)) ∧ w'' = w3.drew := fun c => (num_any _ 8 c _ _ hp1 (by decide)).mono fun _ _ ⟨g1, g2⟩ => ⟨by rw [g1, HV1.out], g2.symm⟩
        have HN2 : ∀ c : Nat, Calls Try.prog 108 #[.slice (some ⟨bb, off + 16, none⟩) 2 c] w3.drew fun e w'' => e = .returned (.int .u64 (n2 : Int)) ∧ w'' = w3.drew := fun c => (num_any _ 2 c _ _ hp2 (by decide)).mono fun _ _ ⟨g1, g2⟩ => ⟨by rw [g1, HV2.out], g2.symm⟩
        have HN3 : ∀ c : Nat, Calls Try.prog 108 #[.slice (some ⟨bb, off + 18, none⟩) 2 c] w3.drew fun e w'' => e = .returned (.int .u64 (n3 : Int)) ∧ w'' = w3.drew := fun c => (num_any _ 2 c _ _ hp3 (by decide)).mono fun _ _ ⟨g1, g2⟩ => ⟨by rw [g1, HV3.out], g2.symm⟩
        have HN4 : ∀ c : Nat, Calls Try.prog 108 #[.slice (some ⟨bb, off + 20, none⟩) 2 c] w3.drew fun e w'' => e = .returned (.int .u64 (n4 : Int)) ∧ w'' = w3.drew := fun c => (num_any _ 2 c _ _ hp4 (by decide)).mono fun _ _ ⟨g1, g2⟩ => ⟨by rw [g1, HV4.out], g2.symm⟩
        have HN5 : ∀ c : Nat, Calls Try.prog 108 #[.slice (some ⟨bb, off + 22, none⟩) 4 c] w3.drew fun e w'' => e = .returned (.int .u64 (n5 : Int)) ∧ w'' = w3.drew := fun c => (num_any _ 4 c _ _ hp5 (by decide)).mono fun _ _ ⟨g1, g2⟩ => ⟨by rw [g1, HV5.out], g2.symm⟩
        have HM0 := Lib.hid HN0
        have HM1 := Lib.hid HN1
        have HM2 := Lib.hid HN2
        have HM3 := Lib.hid HN3
        have HM4 := Lib.hid HN4
        have HM5 := Lib.hid HN5
        clear hp0 hp1 hp2 hp3 hp4 hp5 HN0 HN1 HN2 HN3 HN4 HN5
        go_wp2_with fail
        refine wp_region_still_tail 22 (by kernel_rfl) (by kernel_rfl) ?_
        simp only [List.take_succ_cons, List.take_zero, List.drop_succ_cons, List.drop_zero]
        still_step
        still_step
        still_call (HM0.out _)
        still_step
        still_step
        still_call (HM1.out _)
        still_step
        still_step
        still_call (HM2.out _)
        still_step
        still_step
        still_step
        still_call (HM3.out _)
        still_step
        still_step
        still_step
        still_call (HM4.out _)
        still_step
        still_step
        still_step
        still_call (HM5.out _)
        still_step
        refine wpStill_nil ?_
        change wpList _ _ _ _ _ w3.drew
        obtain ⟨w4, hw4⟩ : ∃ x, w3.drew = x := ⟨_, rfl⟩
        have b4 : Below w3.heap.size w3 w3.drew := ⟨rfl, rfl, rfl, Nat.le_refl _, fun _ _ => rfl⟩
        rw [hw4] at b4 ⊢
        have hsz3 : w.heap.size + 1 < w3.heap.size := (Array.getElem?_eq_some_iff.1 n23).1
        have n24 := (b4.block (w.heap.size + 1) hsz3).trans n23
        have HB4 : Hid (Below w.heap.size w w4) := HB3.out.trans (b4.mono HB3.out.size)
        have hszL := hsz2 L hL6
        have holdL : (cellsF zeroH).size = (cellsF L).size := by rw [cellsF_size, cellsF_size, hL6]; rfl
        have honeL := cellsF_one L
        have hd9 := setRow_heap w4 (w.heap.size + 1) _ (cellsF L) _ _ n24
        have hb9 := below_setRow (g := w.heap.size + 1) HB4.out (by omega) (cellsF L)
        clear b4 hw4
        go_wp2_with (refine wpList_store_row rfl 69 _ _ rfl (w.heap.size + 1) (cellsF L) rfl rfl _ _ n24 hszL holdL honeL ?_)
        refine bodyPost_ret (results_rhead rfl _ _ (w.heap.size + 1) L _ _ rfl hd9 hL6) rfl ?_
        exact ⟨by rw [HF2.out, HI.out]; rfl, hb9⟩
      · have hih : isHead s = false := by unfold isHead; rw [hlen]; simp [h12]
        have HF := Lib.hid (HNO.out hih)
        have HI := Lib.hid hih
        have h12i : ¬ (len : Int) = 26 := by omega
        clear hih hkd hlen hrd
        subst h1
        go_wp2_with (refine wpList_store_row rfl 69 _ _ rfl (w.heap.size + 1) (cellsF zeroH) rfl rfl _ _ n23 hszz rfl hone ?_)
        refine bodyPost_ret (results_rhead rfl _ _ (w.heap.size + 1) zeroH _ _ rfl hd9 rfl) rfl ?_
        exact ⟨by rw [HF.out, HI.out]; rfl, hb9⟩
    · have hih : isHead s = false := by unfold isHead; rw [hkd]; simp [h1]
      have HF := Lib.hid (HNO.out hih)
      have HI := Lib.hid hih
      have h1i : ¬ (kd : Int) = 6 := by omega
      clear hih hkd hlen hrd
      go_wp2_with (refine wpList_store_row rfl 69 _ _ rfl (w.heap.size + 1) (cellsF zeroH) rfl rfl _ _ n23 hszz rfl hone ?_)
      refine bodyPost_ret (results_rhead rfl _ _ (w.heap.size + 1) zeroH _ _ rfl hd9 rfl) rfl ?_
      exact ⟨by rw [HF.out, HI.out]; rfl, hb9⟩
  · have hih : isHead s = false := by unfold isHead; rw [ho]; rfl
    have HF := Lib.hid (HNO.out hih)
    have HI := Lib.hid hih
    clear hih ho
    go_wp2_with (refine wpList_store_row rfl 69 _ _ rfl (w.heap.size + 1) (cellsF zeroH) rfl rfl _ _ n23 hszz rfl hone ?_)
    refine bodyPost_ret (results_rhead rfl _ _ (w.heap.size + 1) zeroH _ _ rfl hd9 rfl) rfl ?_
    exact ⟨by rw [HF.out, HI.out]; rfl, hb9⟩
end Go.Proofs.Ytpmfkamagdifgaa
