/- The law DirentReads, walked. -/
import Derived.Test.YtpnafikmbbnecaaDir19
import Derived.Test.YtpnafikmbbnecaaDir15
namespace Go.Proofs.Ytpnafikmbbnecaa
open Go.ChangeShapes Go.WideShapes Go.RowKit Go.Sort
set_option linter.unusedVariables false
set_option linter.unusedSimpArgs false
set_option maxRecDepth 100000

theorem readD_len {s : List Nat} (hs : s.length = 128) : (readD s).1.length = 4 := by
  unfold readD
  split
  · exact rdB_length s
  · rfl
set_option maxHeartbeats 3200000 in
theorem direntReads_walk (a : Option Addr) (len cap : Nat) (l : List Nat) (w : World) (hr : Reads w a len l) (hl : len ≤ maxLen) :
    Calls Try.prog 3 #[.slice a len cap] w fun e w' => e = .returned (.bool true) ∧ Below w.heap.size w w' := by
  have hs := fullL_length l
  have hbs := fullL_bytes hr.2.1
  obtain ⟨s, hse⟩ : ∃ x, fullL l = x := ⟨_, rfl⟩
  have HFU := Lib.hid (fun (W : World) (h : Reads W a len l) => full_any a len cap l W h hl)
  rw [hse] at HFU hs hbs
  have hX4 := readD_len hs
  have hk := readD_yes (s := s)
  have HRD := Lib.hid (fun W : World => readD_is s hs hbs W)
  have HRR := Lib.hid (fun W : World => rreadD_is s hs hbs W)
  obtain ⟨X, hXe⟩ : ∃ x, (readD s).1 = x := ⟨_, rfl⟩
  obtain ⟨er, here⟩ : ∃ x, (readD s).2 = x := ⟨_, rfl⟩
  have hk2 : er = 0 ∨ er = 21 := by
    rcases hk with h | h
    · exact .inl (here.symm.trans h)
    · right
      rw [← here, h]
  rw [hXe, here] at HRD HRR
  rw [hXe] at hX4
  have HS := Lib.hid hs
  have HX4 := Lib.hid hX4
  obtain ⟨dR, hdr1, hdr2⟩ := row_rblk
  obtain ⟨dC, hdc1, hdc2⟩ := row_blk
  have HDR := Lib.hid hdr1
  have HDC := Lib.hid hdc1
  have HSR : Hid ((Try.prog.info? 33).map (·.size) = some (X.flatMap entV).length) := Lib.hid (by rw [entV_len, hX4]; exact size_rblk)
  have HSC : Hid ((Try.prog.info? 28).map (·.size) = some (X.flatMap entV).length) := Lib.hid (by rw [entV_len, hX4]; exact size_blk)
  have HSX : Hid ((Try.prog.info? 28).map (·.size) = some (csE X).size) := Lib.hid (by rw [csE_size, hX4]; exact size_blk)
  have HSXR : Hid ((Try.prog.info? 33).map (·.size) = some (csE X).size) := Lib.hid (by rw [csE_size, hX4]; exact size_rblk)
  have HOX : Hid ((csE zeroE).size = (csE X).size) := Lib.hid (by rw [csE_size, csE_size, hX4]; rfl)
  have HNX := Lib.hid (csE_one X)
  have HOW := Lib.hid (fun W : World => own_is hX4 W)
  have HEQ := Lib.hid (fun W : World => run_eql_blk hX4 W)
  have hzs := zero_sector
  have hzf := zero_full
  have hzb := zero_blk
  have hzr := zero_rblk
  have HB : Hid (Below w.heap.size w w) := Lib.hid (Below.refl _ _)
  have HREAD := Lib.hid hr
  clear hdr1 hdc1 hX4 hXe here hk hse hbs hr hs
  go_enter Try.func3, Try.ntmps3
  go_wp2_with fail
  refine (awake6_true w).mono ?_
  rintro e w2 ⟨rfl, b⟩
  have HB0 : Hid (Below w.heap.size w w2) := HB.out.trans (b.mono HB.out.size)
  clear HB
  have HB := HB0
  clear HB0
  have hszw2 := b.size
  clear b
  go_wp2_with fail
  refine (HFU.out w2 (HREAD.out.below HB.out)).mono ?_
  rintro e w3 ⟨rfl, b⟩
  have HB0 : Hid (Below w.heap.size w w3) := HB.out.trans (b.mono HB.out.size)
  clear HB
  have HB := HB0
  clear HB0
  have hszw3 := b.size
  clear b
  have nzA := heap_alloc_new w3 (.cells (cells noughts) 24)
  have bbA := below_box w3 (.cells (cells s) 24)
  have nA := heap_alloc_new w3 (.cells (cells s) 24)
  have eA := World.setRow_alloc_new w3 (cells noughts) (cells s) 24
  obtain ⟨w4, hwA⟩ : ∃ wx, w3.alloc (.cells (cells s) 24) = wx := ⟨_, rfl⟩
  rw [hwA] at bbA nA eA
  have hsA : w4.heap.size = w3.heap.size + 1 := by rw [← hwA]; simp
  have HB0 : Hid (Below w.heap.size w w4) := HB.out.trans (bbA.mono HB.out.size)
  clear HB
  have HB := HB0
  clear HB0
  have hszw4 := bbA.size
  clear bbA
  clear hwA
  obtain ⟨mA, hmA⟩ : ∃ m, w3.heap.size = m := ⟨_, rfl⟩
  rw [hmA] at nzA nA eA hsA
  have HCA := Lib.hid (block_cells HS.out nA)
  go_wp2_with (first
    | (refine wpList_store_full rfl _ _ rfl mA s rfl rfl HS.out _ _ nzA rfl ?_; rw [eA])
    | refine wpList_load_full rfl _ rfl mA 0 s rfl HS.out HCA.out ?_)
  clear nzA eA HCA hmA
  refine (HRD.out w4).mono ?_
  rintro e w5 ⟨rfl, b⟩
  have nA' := (b.block mA (by omega)).trans nA
  clear nA
  have nA := nA'
  clear nA'
  have HB0 : Hid (Below w.heap.size w w5) := HB.out.trans (b.mono HB.out.size)
  clear HB
  have HB := HB0
  clear HB0
  have hszw5 := b.size
  clear b
  have nzB := heap_alloc_new w5 (.cells (csE zeroE) 28)
  have bbB := below_box w5 (.cells (csE X) 28)
  have nB := heap_alloc_new w5 (.cells (csE X) 28)
  have eB := World.setRow_alloc_new w5 (csE zeroE) (csE X) 28
  obtain ⟨w6, hwB⟩ : ∃ wx, w5.alloc (.cells (csE X) 28) = wx := ⟨_, rfl⟩
  rw [hwB] at bbB nB eB
  have hsB : w6.heap.size = w5.heap.size + 1 := by rw [← hwB]; simp
  have nA' := (bbB.block mA (by omega)).trans nA
  clear nA
  have nA := nA'
  clear nA'
  have HB0 : Hid (Below w.heap.size w w6) := HB.out.trans (bbB.mono HB.out.size)
  clear HB
  have HB := HB0
  clear HB0
  have hszw6 := bbB.size
  clear bbB
  clear hwB
  obtain ⟨mB, hmB⟩ : ∃ m, w5.heap.size = m := ⟨_, rfl⟩
  rw [hmB] at nzB nB eB hsB
  have hltBnA : mA < mB := by omega
  have HCA := Lib.hid (block_cells HS.out nA)
  go_wp2_with (first
    | (refine wpList_store_row rfl 28 _ _ rfl mB (csE X) rfl rfl _ _ nzB HSX.out HOX.out HNX.out ?_; rw [eB])
    | refine wpList_load_full rfl _ rfl mA 0 s rfl HS.out HCA.out ?_)
  clear nzB eB HCA hmB
  refine (HRR.out w6).mono ?_
  rintro e w7 ⟨rfl, b⟩
  have nA' := (b.block mA (by omega)).trans nA
  clear nA
  have nA := nA'
  clear nA'
  have nB' := (b.block mB (by omega)).trans nB
  clear nB
  have nB := nB'
  clear nB'
  have HB0 : Hid (Below w.heap.size w w7) := HB.out.trans (b.mono HB.out.size)
  clear HB
  have HB := HB0
  clear HB0
  have hszw7 := b.size
  clear b
  have nzC := heap_alloc_new w7 (.cells (csE zeroE) 33)
  have bbC := below_box w7 (.cells (csE X) 33)
  have nC := heap_alloc_new w7 (.cells (csE X) 33)
  have eC := World.setRow_alloc_new w7 (csE zeroE) (csE X) 33
  obtain ⟨w8, hwC⟩ : ∃ wx, w7.alloc (.cells (csE X) 33) = wx := ⟨_, rfl⟩
  rw [hwC] at bbC nC eC
  have hsC : w8.heap.size = w7.heap.size + 1 := by rw [← hwC]; simp
  have nA' := (bbC.block mA (by omega)).trans nA
  clear nA
  have nA := nA'
  clear nA'
  have nB' := (bbC.block mB (by omega)).trans nB
  clear nB
  have nB := nB'
  clear nB'
  have HB0 : Hid (Below w.heap.size w w8) := HB.out.trans (bbC.mono HB.out.size)
  clear HB
  have HB := HB0
  clear HB0
  have hszw8 := bbC.size
  clear bbC
  clear hwC
  obtain ⟨mC, hmC⟩ : ∃ m, w7.heap.size = m := ⟨_, rfl⟩
  rw [hmC] at nzC nC eC hsC
  have hltCnA : mA < mC := by omega
  have hltCnB : mB < mC := by omega
  have HNB := Lib.hid nB
  have HNC := Lib.hid nC
  have heq : ∀ W : World, (binOp .eql 28 (.agg (X.flatMap entV).toArray) (.agg (csE X))).run Try.prog W = .ok (.bool true) W := HEQ.out
  go_wp2_with (refine wpList_store_row rfl 33 _ _ rfl mC (csE X) rfl rfl _ _ nzC HSXR.out HOX.out HNX.out ?_; rw [eC])
  clear nzC eC hmC
  rcases hk2 with rfl | rfl
  · refine wp_region_quiet_below (by kernel_rfl) (by kernel_rfl) ?_
    repeat (first
      | (go_big_quiet_want; (refine quietLoadRow 28 _ rfl mB 0 (X.flatMap entV) dC rfl HDC.out hdc2 HSC.out (blk_regrown HNB.out) ?_); go_simp; go_big_quiet_on)
      | (go_big_quiet_want; (refine quietLoadRow 33 _ rfl mC 0 (X.flatMap entV) dR rfl HDR.out hdr2 HSR.out (blk_regrown HNC.out) ?_); go_simp; go_big_quiet_on)
      | go_big_quiet_step ((go_at_call 14; exact Calls.regrown_of (HOW.out _))))
    refine wpQuiet_nil (regrown_name fun w20 b => ?_)
    have HBZ : Hid (Below w.heap.size w w20) := HB.out.trans (b.mono HB.out.size)
    go_wp2
    go_ret
    exact ⟨by simp, HBZ.out⟩
  · refine wp_region_quiet_below (by kernel_rfl) (by kernel_rfl) ?_
    repeat (first
      | (go_big_quiet_want; (refine quietLoadRow 28 _ rfl mB 0 (X.flatMap entV) dC rfl HDC.out hdc2 HSC.out (blk_regrown HNB.out) ?_); go_simp; go_big_quiet_on)
      | (go_big_quiet_want; (refine quietLoadRow 33 _ rfl mC 0 (X.flatMap entV) dR rfl HDR.out hdr2 HSR.out (blk_regrown HNC.out) ?_); go_simp; go_big_quiet_on)
      | go_big_quiet_step ((go_at_call 14; exact Calls.regrown_of (HOW.out _))))
    refine wpQuiet_nil (regrown_name fun w20 b => ?_)
    have HBZ : Hid (Below w.heap.size w w20) := HB.out.trans (b.mono HB.out.size)
    go_wp2
    go_ret
    exact ⟨by simp, HBZ.out⟩
end Go.Proofs.Ytpnafikmbbnecaa
