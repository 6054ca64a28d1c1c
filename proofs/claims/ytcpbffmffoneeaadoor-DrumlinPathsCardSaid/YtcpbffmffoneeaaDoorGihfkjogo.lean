/- A block of a directory, read (dirent.Read). -/
import Derived.Test.YtcpbffmffoneeaaDoorGpgmogkcj
import Derived.Test.YtcpbffmffoneeaaDoorGealdmmoo
namespace Go.Proofs.YtcpbffmffoneeaaDoor
open Go.RowKit Go.Sort
set_option linter.unusedVariables false
set_option linter.unusedSimpArgs false
set_option maxRecDepth 100000

def readD (s : List Nat) : List Ent × Int := if (writeD (rdB s)).2 = 0 ∧ (writeD (rdB s)).1 = s then (rdB s, 0) else (zeroE, 21)
theorem results_blk {fn : Func} {p u : Tmp} (h : fn.results = #[.cell p 31, .tmp u]) (tmps : Array Value) (w : World) (g : Nat) (E : List Ent) (t : TypeId) (fr : Nat × Nat) (hp : tmps.getD p undef = .pointer (some ⟨g, 0, none⟩))
    (hg : w.heap[g]? = some (.cells (csE E) t fr)) (hl : E.length = 4) : (results fn tmps).run Tryd.prog w = .ok (.tuple #[.agg (csE E), tmps.getD u undef]) w := by
  obtain ⟨d, hd1, hd2⟩ := row_blk
  rw [results_cell_tmp h, hp]
  simp only [asAddr, Sem.run_pure, Result.andThen_ok]
  rw [run_loadVar_row w g t 31 (csE E) fr d hg hd1 (by cases d <;> first | rfl | exact hd2) (by rw [size_blk, csE_size, hl])]
  rfl
theorem build_blk0 (w : World) : (Instr.build 31 #[]).run Tryd.prog w = .ok (.agg (csE zeroE)) w := by kernel_rfl
theorem writeD_length {E : List Ent} (hE : E.length = 4) : (writeD E).1.length = 128 := by
  unfold writeD
  split
  · rename_i h
    exact (blk_facts hE h).2.2.1
  · rfl
theorem writeD_err (E : List Ent) : (writeD E).2 = 0 ∨ (writeD E).2 = 1 := by unfold writeD; split <;> simp
set_option maxHeartbeats 3200000 in
theorem readD_is (s : List Nat) (hs : s.length = 128) (hbs : Bytes s) (w : World) :
    Calls Tryd.prog 8 #[.agg (cells s)] w fun e w' => e = .returned (.tuple #[.agg (csE (readD s).1), .int .i64 (readD s).2]) ∧ Below w.heap.size w w' := by
  have hz := zero_sector
  have hzb := zero_blk
  have hbld := build_blk0
  obtain ⟨d, hd1, hd2⟩ := row_blk
  have b1 := below_box w (.cells (cells s) 34)
  have n1 := heap_alloc_new w (.cells (cells s) 34)
  obtain ⟨w1, hw1⟩ : ∃ w1, w.alloc (.cells (cells s) 34) = w1 := ⟨_, rfl⟩
  have hs1 : w1.heap.size = w.heap.size + 1 := by rw [← hw1]; simp
  rw [hw1] at b1 n1
  have b2 := below_box w1 (.cells (csE zeroE) 31)
  have n2 := heap_alloc_new w1 (.cells (csE zeroE) 31)
  have n1' := (b2.block w.heap.size (by omega)).trans n1
  have HB := Lib.hid (below_next b1 b2)
  rw [hs1] at n2
  obtain ⟨w2, hw2⟩ : ∃ w2, w1.alloc (.cells (csE zeroE) 31) = w2 := ⟨_, rfl⟩
  rw [hw2] at n2 n1' HB
  have hs2 : w2.heap.size = w.heap.size + 2 := by rw [← hw2]; simp [hs1]
  have hr : Reads w2 (some ⟨w.heap.size, 0, none⟩) s.length s := ⟨rfl, hbs, .inr ⟨w.heap.size, 0, rfl, by omega, fun i hi => block_cells hs n1' i (by omega)⟩⟩
  have hpr := pread_block (cap := 128) w2 hr (by omega) (by decide)
  rw [hs] at hpr
  have HPR := Lib.hid hpr
  have hx4 := rdB_length s
  have hfits := outB_fits zeroE s hbs
  have HX : Hid (readD s = if (writeD (rdB s)).2 = 0 ∧ (writeD (rdB s)).1 = s then (rdB s, 0) else (zeroE, 21)) := Lib.hid rfl
  have HFX : Hid (∀ x ∈ rdB s, I64 x.1 ∧ x.2.size ≤ 100000) := Lib.hid (fun x hx => by
    obtain ⟨h1, h2⟩ := hfits x hx
    exact ⟨by unfold I64; omega, by rw [Lib.size_eq]; omega⟩)
  obtain ⟨X, hX⟩ : ∃ x, rdB s = x := ⟨_, rfl⟩
  rw [hX] at HX HFX HPR hx4
  have HX4 := Lib.hid hx4
  have HS := Lib.hid n1'
  have HN2 := Lib.hid n2
  have HD1 := Lib.hid hd1
  have HSX : Hid ((Tryd.prog.info? 31).map (·.size) = some (csE X).size) := Lib.hid (by rw [csE_size, hx4]; exact size_blk)
  have HSV : Hid ((Tryd.prog.info? 31).map (·.size) = some (X.flatMap entV).length) := Lib.hid (by rw [entV_len, hx4]; exact size_blk)
  have HOX : Hid ((csE zeroE).size = (csE X).size) := Lib.hid (by rw [csE_size, csE_size, hx4]; rfl)
  have HNX := Lib.hid (csE_one X)
  have HSZ0 : Hid ((Tryd.prog.info? 31).map (·.size) = some (csE zeroE).size) := Lib.hid (by rw [csE_size]; exact size_blk)
  have HNZ := Lib.hid (csE_one zeroE)
  have hmk := writeD_length hx4
  have herr := writeD_err X
  obtain ⟨mk, hmke⟩ : ∃ x, (writeD X).1 = x := ⟨_, rfl⟩
  obtain ⟨er, here⟩ : ∃ x, (writeD X).2 = x := ⟨_, rfl⟩
  rw [hmke] at hmk
  rw [here] at herr
  rw [hmke, here] at HX
  have HWR : Hid (∀ W : World, Calls Tryd.prog 7 #[.agg (csE X)] W fun e w' => e = .returned (.tuple #[.agg (cells mk), .int .i64 er]) ∧ Below W.heap.size W w') := Lib.hid (fun W => by
    have h := writeD_is HX4.out HFX.out W
    rw [hmke, here] at h
    exact h)
  have hneq := run_neq_sector mk s hmk hs
  have HS2 : Hid (w.heap.size + 1 < w2.heap.size) := Lib.hid (by omega)
  clear b1 n1 b2 hr hpr n1' n2 hd1 hmke here hx4 hfits hX
  go_enter Tryd.func8, Tryd.ntmps8
  go_wp2_with fail
  clear hw1 hw2 hs1 hs2
  refine HPR.out.mono ?_
  rintro e w3 ⟨b3, rfl⟩
  have nS := (b3.block w.heap.size (by have := HS2.out; omega)).trans HS.out
  have nR := (b3.block (w.heap.size + 1) HS2.out).trans HN2.out
  have hgt : w.heap.size + 1 < w3.heap.size := Nat.lt_of_lt_of_le HS2.out b3.size
  have HB3 : Hid (Below w.heap.size w w3) := Lib.hid (below_next HB.out b3)
  clear b3 HB HPR HS HN2
  have HB := HB3
  clear HB3
  have nzA := heap_alloc_new w3 (.cells (csE zeroE) 31)
  have bbA := below_box w3 (.cells (csE X) 31)
  have nA := heap_alloc_new w3 (.cells (csE X) 31)
  have eA := World.setRow_alloc_new w3 (csE zeroE) (csE X) 31
  obtain ⟨w4, hwA⟩ : ∃ wx, w3.alloc (.cells (csE X) 31) = wx := ⟨_, rfl⟩
  rw [hwA] at bbA nA eA
  have hsA : w4.heap.size = w3.heap.size + 1 := by rw [← hwA]; simp
  have nS' := (bbA.block w.heap.size (by omega)).trans nS
  have nR' := (bbA.block (w.heap.size + 1) (by omega)).trans nR
  have HBA : Hid (Below w.heap.size w w4) := HB.out.trans (bbA.mono HB.out.size)
  clear HB
  have HB := HBA
  clear HBA bbA hwA
  clear nS
  have nS := nS'
  clear nS'
  clear nR
  have nR := nR'
  clear nR'
  obtain ⟨mA, hmA⟩ : ∃ m, w3.heap.size = m := ⟨_, rfl⟩
  rw [hmA] at nzA nA eA hsA
  have hleA : w.heap.size < mA := by omega
  have hltA0 : w.heap.size < mA := by omega
  have hltA1 : (w.heap.size + 1) < mA := by omega
  have hmA1 : w.heap.size + 1 < mA := by omega
  have hrA := row_range nA
  have HRA : Hid (w4.rangeAt mA 0 (X.flatMap entV)) := Lib.hid hrA
  have HNZA := Lib.hid nzA
  clear hrA nzA
  go_wp2_with (first
    | (refine wpList_store_row rfl 31 _ _ rfl mA (csE X) rfl rfl _ _ HNZA.out HSX.out HOX.out HNX.out ?_; rw [eA])
    | refine wpList_load_mid rfl 31 _ rfl mA 0 rfl (X.flatMap entV) d HRA.out HD1.out hd2 HSV.out ?_)
  clear eA HNZA HRA hmA
  refine (HWR.out w4).mono ?_
  rintro e w5 ⟨rfl, b⟩
  have nS' := (b.block w.heap.size (by omega)).trans nS
  clear nS
  have nS := nS'
  clear nS'
  have nR' := (b.block (w.heap.size + 1) (by omega)).trans nR
  clear nR
  have nR := nR'
  clear nR'
  have nA' := (b.block mA (by omega)).trans nA
  clear nA
  have nA := nA'
  clear nA'
  have HB0 : Hid (Below w.heap.size w w5) := HB.out.trans (b.mono HB.out.size)
  clear HB
  have HB := HB0
  clear HB0
  have hszw5 := b.size
  clear b
  have nzB := heap_alloc_new w5 (.cells (cells noughts) 34)
  have bbB := below_box w5 (.cells (cells mk) 34)
  have nB := heap_alloc_new w5 (.cells (cells mk) 34)
  have eB := World.setRow_alloc_new w5 (cells noughts) (cells mk) 34
  obtain ⟨w6, hwB⟩ : ∃ wx, w5.alloc (.cells (cells mk) 34) = wx := ⟨_, rfl⟩
  rw [hwB] at bbB nB eB
  have hsB : w6.heap.size = w5.heap.size + 1 := by rw [← hwB]; simp
  have nS' := (bbB.block w.heap.size (by omega)).trans nS
  have nR' := (bbB.block (w.heap.size + 1) (by omega)).trans nR
  have nA' := (bbB.block mA (by omega)).trans nA
  have HBB : Hid (Below w.heap.size w w6) := HB.out.trans (bbB.mono HB.out.size)
  clear HB
  have HB := HBB
  clear HBB bbB hwB
  clear nS
  have nS := nS'
  clear nS'
  clear nR
  have nR := nR'
  clear nR'
  clear nA
  have nA := nA'
  clear nA'
  obtain ⟨mB, hmB⟩ : ∃ m, w5.heap.size = m := ⟨_, rfl⟩
  rw [hmB] at nzB nB eB hsB
  have hleB : w.heap.size < mB := by omega
  have hltB0 : w.heap.size < mB := by omega
  have hltB1 : (w.heap.size + 1) < mB := by omega
  have hltB2 : mA < mB := by omega
  have hmB1 : w.heap.size + 1 < mB := by omega
  have HCB := Lib.hid (block_cells hmk nB)
  have HCS := Lib.hid (block_cells hs nS)
  have hrA6 := row_range nA
  have HRA6 : Hid (w6.rangeAt mA 0 (X.flatMap entV)) := Lib.hid hrA6
  have HNR := Lib.hid nR
  have HD9 := Lib.hid (fun cs => setRow_heap w6 (w.heap.size + 1) _ cs _ _ nR)
  have HB9 := Lib.hid (fun cs => below_setRow (g := w.heap.size + 1) HB.out (by omega) cs)
  have HNZB := Lib.hid nzB
  clear hrA6 nR nA nB nS nzB
  rcases herr with rfl | rfl
  · by_cases hms : mk = s
    · have HF : Hid (readD s = (X, 0)) := Lib.hid (HX.out.trans (if_pos ⟨rfl, hms⟩))
      rw [decide_eq_true hms, Bool.not_true] at hneq
      clear hms
      go_wp2_with (first
        | (refine wpList_store_sector rfl _ _ rfl mB mk rfl rfl hmk _ _ HNZB.out rfl ?_; rw [eB])
        | refine wpList_load_sector_want rfl _ rfl mB 0 mk rfl hmk HCB.out ?_
        | refine wpList_load_sector_want rfl _ rfl w.heap.size 0 s rfl hs HCS.out ?_
        | refine wpList_load_mid rfl 31 _ rfl mA 0 rfl (X.flatMap entV) d HRA6.out HD1.out hd2 HSV.out ?_
        | refine wpList_store_row rfl 31 _ _ rfl (w.heap.size + 1) (csE X) rfl rfl _ _ HNR.out HSX.out HOX.out HNX.out ?_)
      refine bodyPost_ret (results_blk rfl _ _ (w.heap.size + 1) X _ _ rfl (HD9.out _) HX4.out) rfl ?_
      exact ⟨by rw [HF.out]; rfl, HB9.out _⟩
    · have HF : Hid (readD s = (zeroE, 21)) := Lib.hid (HX.out.trans (if_neg (fun h => hms h.2)))
      rw [decide_eq_false hms, Bool.not_false] at hneq
      clear hms
      go_wp2_with (first
        | (refine wpList_store_sector rfl _ _ rfl mB mk rfl rfl hmk _ _ HNZB.out rfl ?_; rw [eB])
        | refine wpList_load_sector_want rfl _ rfl mB 0 mk rfl hmk HCB.out ?_
        | refine wpList_load_sector_want rfl _ rfl w.heap.size 0 s rfl hs HCS.out ?_
        | refine wpList_store_row rfl 31 _ _ rfl (w.heap.size + 1) (csE zeroE) rfl rfl _ _ HNR.out HSZ0.out rfl HNZ.out ?_)
      refine bodyPost_ret (results_blk rfl _ _ (w.heap.size + 1) zeroE _ _ rfl (HD9.out _) rfl) rfl ?_
      exact ⟨by rw [HF.out]; rfl, HB9.out _⟩
  · have HF : Hid (readD s = (zeroE, 21)) := Lib.hid (HX.out.trans (if_neg (fun h => by cases h.1)))
    go_wp2_with (first
      | (refine wpList_store_sector rfl _ _ rfl mB mk rfl rfl hmk _ _ HNZB.out rfl ?_; rw [eB])
      | refine wpList_store_row rfl 31 _ _ rfl (w.heap.size + 1) (csE zeroE) rfl rfl _ _ HNR.out HSZ0.out rfl HNZ.out ?_)
    refine bodyPost_ret (results_blk rfl _ _ (w.heap.size + 1) zeroE _ _ rfl (HD9.out _) rfl) rfl ?_
    exact ⟨by rw [HF.out]; rfl, HB9.out _⟩
end Go.Proofs.YtcpbffmffoneeaaDoor
