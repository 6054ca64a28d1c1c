/- A region's header, written in a sealed sector, and read back: the program's. -/
import Derived.Test.YtpmfkamagdifgaaHead
import Derived.Test.YtpmfkamagdifgaaInode2
import Derived.Test.YtpmfkamagdifgaaAwake5
namespace Go.Proofs.Ytpmfkamagdifgaa
open Go.RowKit Go.Sort
set_option linter.unusedVariables false
set_option linter.unusedSimpArgs false
set_option maxRecDepth 100000

theorem head_widths {l : List FldD} (h : IsHead l) : widths l = 26 := by
  have e : l.map (·.width) = (List.range 6).map widthH := by
    apply List.ext_getElem?
    intro m
    by_cases hm : m < 6
    · obtain ⟨z, hz, _⟩ := h.2 m hm
      rw [List.getElem?_map, List.getElem?_map, hz, List.getElem?_range hm]
      rfl
    · rw [List.getElem?_eq_none (by simp [h.1]; omega), List.getElem?_eq_none (by simp; omega)]
  rw [widths_sum, e]
  decide
def mayH (l : List FldD) : Bool := true
def writeH (l : List FldD) : List Nat × Int := if mayH l = false ∨ wrF l = true then (noughts, 1) else (sealL 6 (wrB l), 0)
theorem headerMay_is {l : List FldD} (hl : IsHead l) (w : World) : Calls Try.prog 102 #[.agg (cellsF l)] w fun e w' => e = .returned (.bool (mayH l)) ∧ Below w.heap.size w w' := by
  have b1 := below_box w (.cells (cellsF l) 70)
  obtain ⟨w1, hw1⟩ : ∃ w1, w.alloc (.cells (cellsF l) 70) = w1 := ⟨_, rfl⟩
  rw [hw1] at b1
  go_enter Try.func102, Try.ntmps102
  go_wp2
  go_ret
  exact ⟨rfl, b1⟩

set_option maxHeartbeats 1600000 in
theorem write_head {l : List FldD} (hl : IsHead l) (w : World) :
    Calls Try.prog 101 #[.int .u8 6, .agg (cellsF l), .func (.func 102) #[] #[], .func (.func 103) #[] #[]] w fun e w' => e = .returned (.tuple #[.agg (cells (writeH l).1), .int .i64 (writeH l).2]) ∧ Below w.heap.size w w' := by
  have hz := zero_sector
  have hbld := build_sector
  have hwd := head_widths hl
  obtain ⟨d, hd1, hd2⟩ := row_head
  have hsi : (Try.prog.info? 70).map (·.size) = some (rowV l).length := by unfold rowV; rw [List.length_map, hl.1]; exact size_head
  have b1 := below_box w (.cells (cellsF l) 70)
  have n1 := heap_alloc_new w (.cells (cellsF l) 70)
  obtain ⟨w1, hw1⟩ : ∃ w1, w.alloc (.cells (cellsF l) 70) = w1 := ⟨_, rfl⟩
  have hs1 : w1.heap.size = w.heap.size + 1 := by rw [← hw1]; simp
  rw [hw1] at b1 n1
  have b2 := below_box w1 (.cells (cells noughts) 31)
  have n2 := heap_alloc_new w1 (.cells (cells noughts) 31)
  have n1' := (b2.block w.heap.size (by omega)).trans n1
  have hr1 := rowV_range n1'
  have HB := Lib.hid (below_next b1 b2)
  rw [hs1] at n2
  obtain ⟨w2, hw2⟩ : ∃ w2, w1.alloc (.cells (cells noughts) 31) = w2 := ⟨_, rfl⟩
  rw [hw2] at n2 n1' hr1 HB
  have hs2 : w2.heap.size = w.heap.size + 2 := by rw [← hw2]; simp [hs1]
  clear b1 n1 b2
  go_enter Try.func101, Try.ntmps101
  go_wp2_with (refine wpList_load_mid rfl 70 _ rfl w.heap.size 0 (by go_simp) (rowV l) d hr1 hd1 hd2 hsi ?_)
  refine (headerMay_is hl w2).mono ?_
  rintro e w3 ⟨rfl, b3⟩
  have n1'' := (b3.block w.heap.size (by omega)).trans n1'
  have n2'' := (b3.block (w.heap.size + 1) (by omega)).trans n2
  have HB3 : Hid (Below w.heap.size w w3) := HB.out.trans (b3.mono HB.out.size)
  have hs3 : w.heap.size + 2 ≤ w3.heap.size := by have := b3.size; omega
  have hr3 := rowV_range n1''
  clear b3 n1' n2 hr1 HB hw1 hw2 hs1 hs2
  cases hm : mayH l with
  | false =>
    have hfin : writeH l = (noughts, 1) := if_pos (.inl hm)
    have HF := Lib.hid hfin
    clear hfin
    have hd := setRow_heap w3 (w.heap.size + 1) _ (cells noughts) _ _ n2''
    have hb := below_setRow (g := w.heap.size + 1) HB3.out (by omega) (cells noughts)
    go_wp2_with (refine wpList_store_sector rfl _ _ rfl (w.heap.size + 1) noughts (by go_simp) (by go_simp) rfl _ _ n2'' rfl ?_)
    refine bodyPost_ret (results_sector rfl _ _ (w.heap.size + 1) noughts _ _ rfl hd rfl) rfl ?_
    exact ⟨by rw [HF.out]; rfl, hb⟩
  | true =>
    go_wp2_with (refine wpList_load_mid rfl 70 _ rfl w.heap.size 0 (by go_simp) (rowV l) d hr3 hd1 hd2 hsi ?_)
    refine (pwrite_head hl (by rw [hwd]; decide) w3).mono ?_
    rintro e w4 ⟨b4, ⟨hf, rfl⟩ | ⟨hf, v, rfl, ho⟩⟩
    · have hfin : writeH l = (noughts, 1) := if_pos (.inr hf)
      have HF := Lib.hid hfin
      clear hfin
      have n4 := (b4.block (w.heap.size + 1) (by omega)).trans n2''
      have hd := setRow_heap w4 (w.heap.size + 1) _ (cells noughts) _ _ n4
      have hb := below_setRow (g := w.heap.size + 1) (HB3.out.trans (b4.mono HB3.out.size)) (by omega) (cells noughts)
      clear b4 n1'' n2'' hr3 hf
      go_wp2_with (refine wpList_store_sector rfl _ _ rfl (w.heap.size + 1) noughts (by go_simp) (by go_simp) rfl _ _ n4 rfl ?_)
      refine bodyPost_ret (results_sector rfl _ _ (w.heap.size + 1) noughts _ _ rfl hd rfl) rfl ?_
      exact ⟨by rw [HF.out]; rfl, hb⟩
    · have hfin : writeH l = (sealL 6 (wrB l), 0) := if_neg (by rw [hm, hf]; simp)
      have HF := Lib.hid hfin
      clear hfin
      have n4 := (b4.block (w.heap.size + 1) (by omega)).trans n2''
      obtain ⟨a4, cap4, rfl, hr4, _, _⟩ := ho.reads
      have HB4 : Hid (Below w.heap.size w w4) := HB3.out.trans (b4.mono HB3.out.size)
      have hs4 := Nat.le_trans hs3 b4.size
      have hlen : (wrB l).length ≤ 120 := by rw [wrB_length, hwd]; decide
      clear b4 n1'' n2'' hr3 ho HB3 hf
      go_wp2_with fail
      refine (make_ok 6 (wrB l) a4 _ cap4 w4 hr4 hlen (by decide) (by decide)).mono ?_
      rintro e w5 ⟨rfl, b5⟩
      have n5 := (b5.block (w.heap.size + 1) (by omega)).trans n4
      have hsl := sealL_length (kind := 6) hlen
      have hd := setRow_heap w5 (w.heap.size + 1) _ (cells (sealL 6 (wrB l))) _ _ n5
      have hb := below_setRow (g := w.heap.size + 1) (HB4.out.trans (b5.mono HB4.out.size)) (by omega) (cells (sealL 6 (wrB l)))
      clear b5 n4 hr4 HB4
      go_wp2_with (refine wpList_store_sector rfl _ _ rfl (w.heap.size + 1) (sealL 6 (wrB l)) (by go_simp) (by go_simp) hsl _ _ n5 rfl ?_)
      refine bodyPost_ret (results_sector rfl _ _ (w.heap.size + 1) (sealL 6 (wrB l)) _ _ rfl hd hsl) rfl ?_
      exact ⟨by rw [HF.out]; rfl, hb⟩

/-! ### Read -/
def readH (s : List Nat) : List FldD × Int := if (writeH (rdH (bO s))).2 = 0 ∧ (writeH (rdH (bO s))).1 = s then (rdH (bO s), 0) else (zeroH, 21)
theorem results_head {fn : Func} {p u : Tmp} (h : fn.results = #[.cell p 70, .tmp u]) (tmps : Array Value) (w : World) (g : Nat) (l : List FldD) (t : TypeId) (fr : Nat × Nat) (hp : tmps.getD p undef = .pointer (some ⟨g, 0, none⟩))
    (hg : w.heap[g]? = some (.cells (cellsF l) t fr)) (hl : l.length = 6) : (results fn tmps).run Try.prog w = .ok (.tuple #[.agg (cellsF l), tmps.getD u undef]) w := by
  obtain ⟨d, hd1, hd2⟩ := row_head
  rw [results_cell_tmp h, hp]
  simp only [asAddr, Sem.run_pure, Result.andThen_ok]
  rw [run_loadVar_row w g t 70 (cellsF l) fr d hg hd1 (by cases d <;> first | rfl | exact hd2) (by rw [size_head, cellsF_size, hl])]
  rfl
theorem writeH_length (l : List FldD) (h : IsHead l) : (writeH l).1.length = 128 := by
  unfold writeH
  split
  · rfl
  · exact sealL_length (by rw [wrB_length, head_widths h]; decide)

set_option maxHeartbeats 1600000 in
theorem read_head (s : List Nat) (hs : s.length = 128) (hb : Bytes s) (w : World) :
    Calls Try.prog 106 #[.int .u8 6, .agg (cells s), .func (.func 102) #[] #[], .func (.func 103) #[] #[]] w fun e w' => e = .returned (.tuple #[.agg (cellsF (readH s).1), .int .i64 (readH s).2]) ∧ Below w.heap.size w w' := by
  have hz := zero_sector
  have hzi := zero_head
  obtain ⟨d, hd1, hd2⟩ := row_head
  have hsz : ∀ l : List FldD, l.length = 6 → (Try.prog.info? 70).map (·.size) = some (rowV l).length := fun l hl => by unfold rowV; rw [List.length_map, hl]; exact size_head
  have hsz2 : ∀ l : List FldD, l.length = 6 → (Try.prog.info? 70).map (·.size) = some (cellsF l).size := fun l hl => by rw [cellsF_size, hl]; exact size_head
  have b1 := below_box w (.cells (cells s) 31)
  have n1 := heap_alloc_new w (.cells (cells s) 31)
  obtain ⟨w1, hw1⟩ : ∃ w1, w.alloc (.cells (cells s) 31) = w1 := ⟨_, rfl⟩
  have hs1 : w1.heap.size = w.heap.size + 1 := by rw [← hw1]; simp
  rw [hw1] at b1 n1
  have b2 := below_box w1 (.cells (cellsF zeroH) 70)
  have n2 := heap_alloc_new w1 (.cells (cellsF zeroH) 70)
  have n1' := (b2.block w.heap.size (by omega)).trans n1
  have HB := Lib.hid (below_next b1 b2)
  rw [hs1] at n2
  obtain ⟨w2, hw2⟩ : ∃ w2, w1.alloc (.cells (cellsF zeroH) 70) = w2 := ⟨_, rfl⟩
  rw [hw2] at n2 n1' HB
  have hs2 : w2.heap.size = w.heap.size + 2 := by rw [← hw2]; simp [hs1]
  have HC := Lib.hid (box_cells hs n1')
  clear b1 n1 b2
  go_enter Try.func106, Try.ntmps106
  go_wp2_with (refine wpList_load_sector rfl _ rfl w.heap.size 0 s (by go_simp) hs HC.out ?_)
  refine (open_any2 s hs hb w2).mono ?_
  rintro e w3 ⟨b3, h3⟩
  have n1'' := (b3.block w.heap.size (by omega)).trans n1'
  have n2'' := (b3.block (w.heap.size + 1) (by omega)).trans n2
  have HB3 : Hid (Below w.heap.size w w3) := HB.out.trans (b3.mono HB.out.size)
  have hs3 : w.heap.size + 2 ≤ w3.heap.size := by have := b3.size; omega
  obtain ⟨k, a3, cap3, er, he, hr3, hc3, hm3⟩ : ∃ (k : Nat) (a3 : Option Addr) (cap3 : Nat) (er : Int), e = .returned (.tuple #[.int .u8 k, .slice a3 (bO s).length cap3, .int .i64 er]) ∧ Reads w3 a3 (bO s).length (bO s) ∧ (bO s).length ≤ cap3 ∧ cap3 ≤ maxLen := by
    rcases h3 with ⟨ho, a, cap, he, hr, hc, hm⟩ | ⟨ho, he⟩
    · have e : bO s = bodyL s := if_pos ho
      rw [e]
      exact ⟨_, a, cap, _, he, hr, hc, hm⟩
    · have e : bO s = [] := if_neg (by rw [ho]; decide)
      rw [e]
      exact ⟨0, none, 0, 21, he, ⟨rfl, by intro x hx; simp at hx, .inl rfl⟩, Nat.le_refl _, by unfold maxLen; omega⟩
  subst he
  have hbb : Bytes (bO s) := hr3.2.1
  clear h3 b3 n1' n2 HB HC hw1 hw2 hs1 hs2
  go_wp2_with fail
  refine (pread_head w3 hr3 hc3 hm3).mono ?_
  rintro e w4 ⟨b4, rfl⟩
  have hIx := rdH_is hbb
  have HX : Hid (readH s = if (writeH (rdH (bO s))).2 = 0 ∧ (writeH (rdH (bO s))).1 = s then (rdH (bO s), 0) else (zeroH, 21)) := rfl
  obtain ⟨x, hx⟩ : ∃ x, rdH (bO s) = x := ⟨_, rfl⟩
  rw [hx] at hIx HX ⊢
  have n1 := (b4.block w.heap.size (by omega)).trans n1''
  have n2 := (b4.block (w.heap.size + 1) (by omega)).trans n2''
  have HB4 : Hid (Below w.heap.size w w4) := HB3.out.trans (b4.mono HB3.out.size)
  have hs4 : w.heap.size + 2 ≤ w4.heap.size := Nat.le_trans hs3 b4.size
  have nz := heap_alloc_new w4 (.cells (cellsF zeroH) 70)
  have b5 := below_box w4 (.cells (cellsF x) 70)
  have nx := heap_alloc_new w4 (.cells (cellsF x) 70)
  have e5 := World.setRow_alloc_new w4 (cellsF zeroH) (cellsF x) 70
  obtain ⟨w5, hw5⟩ : ∃ w5, w4.alloc (.cells (cellsF x) 70) = w5 := ⟨_, rfl⟩
  rw [hw5] at b5 nx e5
  have n15 := (b5.block w.heap.size (by omega)).trans n1
  have n25 := (b5.block (w.heap.size + 1) (by omega)).trans n2
  have HB5 : Hid (Below w.heap.size w w5) := HB4.out.trans (b5.mono HB4.out.size)
  have hs5 : w5.heap.size = w4.heap.size + 1 := by rw [← hw5]; simp
  have hrx := rowV_range nx
  have hsx := hsz x hIx.1
  have hsx2 := hsz2 x hIx.1
  have hold : (cellsF zeroH).size = (cellsF x).size := by rw [cellsF_size, cellsF_size, hIx.1]; rfl
  have honex := cellsF_one x
  obtain ⟨m, hm⟩ : ∃ m, w4.heap.size = m := ⟨_, rfl⟩
  rw [hm] at nx hrx hs5 nz hs4 e5
  clear n1'' n2'' HB3 hs3 b4 n1 n2 HB4 b5 hr3 hc3 hm3 hx hbb hw5
  go_wp2_with (first
    | (refine wpList_store_row rfl 70 _ _ rfl m (cellsF x) (by go_simp) (by go_simp) _ _ nz hsx2 hold honex ?_; rw [e5])
    | refine wpList_load_mid rfl 70 _ rfl m 0 (by go_simp) (rowV x) d hrx hd1 hd2 hsx ?_)
  refine (write_head hIx w5).mono ?_
  rintro e w6 ⟨rfl, b6⟩
  have hmk := writeH_length x hIx
  obtain ⟨mk, hmke⟩ : ∃ mk, (writeH x).1 = mk := ⟨_, rfl⟩
  obtain ⟨er2, here⟩ : ∃ er2, (writeH x).2 = er2 := ⟨_, rfl⟩
  rw [hmke, here] at HX ⊢
  rw [hmke] at hmk
  have n16 := (b6.block w.heap.size (by omega)).trans n15
  have n26 := (b6.block (w.heap.size + 1) (by omega)).trans n25
  have nx6 := (b6.block m (by omega)).trans nx
  have HB6 : Hid (Below w.heap.size w w6) := HB5.out.trans (b6.mono HB5.out.size)
  have hs6 : m + 1 ≤ w6.heap.size := by have := b6.size; omega
  have nn := heap_alloc_new w6 (.cells (cells noughts) 31)
  have b7 := below_box w6 (.cells (cells mk) 31)
  have n7 := heap_alloc_new w6 (.cells (cells mk) 31)
  have e7 := World.setRow_alloc_new w6 (cells noughts) (cells mk) 31
  obtain ⟨w7, hw7⟩ : ∃ w7, w6.alloc (.cells (cells mk) 31) = w7 := ⟨_, rfl⟩
  rw [hw7] at b7 n7 e7
  have hs7 : w7.heap.size = w6.heap.size + 1 := by rw [← hw7]; simp
  have n17 := (b7.block w.heap.size (by omega)).trans n16
  have n27 := (b7.block (w.heap.size + 1) (by omega)).trans n26
  have nx7 := (b7.block m (by omega)).trans nx6
  have HB7 : Hid (Below w.heap.size w w7) := HB6.out.trans (b7.mono HB6.out.size)
  obtain ⟨m2, hm2⟩ : ∃ m2, w6.heap.size = m2 := ⟨_, rfl⟩
  rw [hm2] at n7 e7 nn hs7 hs6
  have HC7 := Lib.hid (block_cells hmk n7)
  have HCs := Lib.hid (block_cells hs n17)
  have hrx7 := rowV_range nx7
  have hneq := run_neq_sector mk s hmk hs
  clear n15 n25 nx HB5 b6 n16 n26 nx6 HB6 b7 hw7 hmke here hrx hold e5 nz hm
  by_cases her : er2 = 0
  · subst her
    by_cases hms : mk = s
    · have hfin : readH s = (x, 0) := HX.out.trans (if_pos ⟨rfl, hms⟩)
      have HF := Lib.hid hfin
      rw [decide_eq_true hms, Bool.not_true] at hneq
      have hd8 := setRow_heap _ (w.heap.size + 1) _ (cellsF x) _ _ n27
      have hb8 := below_setRow (g := w.heap.size + 1) HB7.out (by omega) (cellsF x)
      have hold2 : (cellsF zeroH).size = (cellsF x).size := by rw [cellsF_size, cellsF_size, hIx.1]; rfl
      clear hfin hms
      go_wp2_with (first
        | (refine wpList_store_sector rfl _ _ rfl m2 mk rfl rfl hmk _ _ nn rfl ?_; rw [e7])
        | refine wpList_load_sector_want rfl _ rfl m2 0 mk rfl hmk HC7.out ?_
        | refine wpList_load_sector_want rfl _ rfl w.heap.size 0 s rfl hs HCs.out ?_
        | refine wpList_load_mid rfl 70 _ rfl m 0 rfl (rowV x) d hrx7 hd1 hd2 hsx ?_
        | refine wpList_store_row rfl 70 _ _ rfl (w.heap.size + 1) (cellsF x) rfl rfl _ _ n27 hsx2 hold2 honex ?_)
      refine bodyPost_ret (results_head rfl _ _ (w.heap.size + 1) x _ _ rfl hd8 hIx.1) rfl ?_
      exact ⟨by rw [HF.out]; rfl, hb8⟩
    · rw [decide_eq_false hms, Bool.not_false] at hneq
      have hfin : readH s = (zeroH, 21) := HX.out.trans (if_neg (fun h => hms h.2))
      have HF := Lib.hid hfin
      have b8 := below_box w7 (.cells (cellsF zeroH) 70)
      have n8 := heap_alloc_new w7 (.cells (cellsF zeroH) 70)
      rw [hs7] at n8
      have n28 := (b8.block (w.heap.size + 1) (by omega)).trans n27
      have HB8 : Hid (Below w.heap.size w (w7.alloc (.cells (cellsF zeroH) 70))) := HB7.out.trans (b8.mono HB7.out.size)
      have hr8 := rowV_range n8
      have hs8 := hsz zeroH rfl
      have hs82 := hsz2 zeroH rfl
      have hone8 := cellsF_one zeroH
      have hd8 := setRow_heap _ (w.heap.size + 1) _ (cellsF zeroH) _ _ n28
      have hb8 := below_setRow (g := w.heap.size + 1) HB8.out (by omega) (cellsF zeroH)
      clear b8 HB8 hfin
      go_wp2_with (first
        | (refine wpList_store_sector rfl _ _ rfl m2 mk rfl rfl hmk _ _ nn rfl ?_; rw [e7])
        | refine wpList_load_sector_want rfl _ rfl m2 0 mk rfl hmk HC7.out ?_
        | refine wpList_load_sector_want rfl _ rfl w.heap.size 0 s rfl hs HCs.out ?_
        | refine wpList_load_mid rfl 70 _ rfl (m2 + 1) 0 rfl (rowV zeroH) d hr8 hd1 hd2 hs8 ?_
        | refine wpList_store_row rfl 70 _ _ rfl (w.heap.size + 1) (cellsF zeroH) rfl rfl _ _ n28 hs82 rfl hone8 ?_)
      refine bodyPost_ret (results_head rfl _ _ (w.heap.size + 1) zeroH _ _ rfl hd8 rfl) rfl ?_
      exact ⟨by rw [HF.out]; rfl, hb8⟩
  · have hne0 : (er2 == 0) = false := by simpa using her
    have hfin : readH s = (zeroH, 21) := HX.out.trans (if_neg (fun h => her h.1))
    have HF := Lib.hid hfin
    have b8 := below_box w7 (.cells (cellsF zeroH) 70)
    have n8 := heap_alloc_new w7 (.cells (cellsF zeroH) 70)
    rw [hs7] at n8
    have n28 := (b8.block (w.heap.size + 1) (by omega)).trans n27
    have HB8 : Hid (Below w.heap.size w (w7.alloc (.cells (cellsF zeroH) 70))) := HB7.out.trans (b8.mono HB7.out.size)
    have hr8 := rowV_range n8
    have hs8 := hsz zeroH rfl
    have hs82 := hsz2 zeroH rfl
    have hone8 := cellsF_one zeroH
    have hd8 := setRow_heap _ (w.heap.size + 1) _ (cellsF zeroH) _ _ n28
    have hb8 := below_setRow (g := w.heap.size + 1) HB8.out (by omega) (cellsF zeroH)
    clear b8 HB8 hfin
    go_wp2_with (first
      | (refine wpList_store_sector rfl _ _ rfl m2 mk rfl rfl hmk _ _ nn rfl ?_; rw [e7])
      | refine wpList_load_sector_want rfl _ rfl m2 0 mk rfl hmk HC7.out ?_
      | refine wpList_load_sector_want rfl _ rfl w.heap.size 0 s rfl hs HCs.out ?_
      | refine wpList_load_mid rfl 70 _ rfl (m2 + 1) 0 rfl (rowV zeroH) d hr8 hd1 hd2 hs8 ?_
      | refine wpList_store_row rfl 70 _ _ rfl (w.heap.size + 1) (cellsF zeroH) rfl rfl _ _ n28 hs82 rfl hone8 ?_)
    refine bodyPost_ret (results_head rfl _ _ (w.heap.size + 1) zeroH _ _ rfl hd8 rfl) rfl ?_
    exact ⟨by rw [HF.out]; rfl, hb8⟩
set_option maxHeartbeats 1600000 in
theorem writeHeader_is {l : List FldD} (hl : IsHead l) (w : World) :
    Calls Try.prog 29 #[.agg (cellsF l)] w fun e w' => e = .returned (.tuple #[.agg (cells (writeH l).1), .int .i64 (writeH l).2]) ∧ Below w.heap.size w w' := by
  have hz := zero_sector
  obtain ⟨d, hd1, hd2⟩ := row_head
  have hsi : (Try.prog.info? 70).map (·.size) = some (rowV l).length := by unfold rowV; rw [List.length_map, hl.1]; exact size_head
  have b1 := below_box w (.cells (cellsF l) 70)
  have n1 := heap_alloc_new w (.cells (cellsF l) 70)
  obtain ⟨w1, hw1⟩ : ∃ w1, w.alloc (.cells (cellsF l) 70) = w1 := ⟨_, rfl⟩
  have hs1 : w1.heap.size = w.heap.size + 1 := by rw [← hw1]; simp
  rw [hw1] at b1 n1
  have b2 := below_box w1 (.cells (cells noughts) 31)
  have n2 := heap_alloc_new w1 (.cells (cells noughts) 31)
  have n1' := (b2.block w.heap.size (by omega)).trans n1
  have hr1 := rowV_range n1'
  have HB := Lib.hid (below_next b1 b2)
  rw [hs1] at n2
  obtain ⟨w2, hw2⟩ : ∃ w2, w1.alloc (.cells (cells noughts) 31) = w2 := ⟨_, rfl⟩
  rw [hw2] at n2 n1' hr1 HB
  have hs2 : w2.heap.size = w.heap.size + 2 := by rw [← hw2]; simp [hs1]
  clear b1 n1 b2
  go_enter Try.func29, Try.ntmps29
  go_wp2_with (refine wpList_load_mid rfl 70 _ rfl w.heap.size 0 rfl (rowV l) d hr1 hd1 hd2 hsi ?_)
  refine (write_head hl w2).mono ?_
  rintro e w3 ⟨rfl, b3⟩
  have n3 := (b3.block (w.heap.size + 1) (by omega)).trans n2
  have hlen := writeH_length l hl
  obtain ⟨s, hse⟩ : ∃ s, (writeH l).1 = s := ⟨_, rfl⟩
  obtain ⟨er, here⟩ : ∃ er, (writeH l).2 = er := ⟨_, rfl⟩
  have HS := Lib.hid (And.intro hse here)
  rw [hse, here]
  rw [hse] at hlen
  have hd := setRow_heap w3 (w.heap.size + 1) _ (cells s) _ _ n3
  have hb := below_setRow (g := w.heap.size + 1) (HB.out.trans (b3.mono HB.out.size)) (by omega) (cells s)
  clear b3 n1' n2 hr1 HB hw1 hw2 hs1 hs2 hse here
  go_wp2_with (refine wpList_store_sector rfl _ _ rfl (w.heap.size + 1) s rfl rfl hlen _ _ n3 rfl ?_)
  refine bodyPost_ret (results_sector rfl _ _ (w.heap.size + 1) s _ _ rfl hd hlen) rfl ?_
  exact ⟨by rw [HS.out.1, HS.out.2]; rfl, hb⟩

set_option maxHeartbeats 1600000 in
theorem readHeader_is (s : List Nat) (hs : s.length = 128) (hbs : Bytes s) (w : World) :
    Calls Try.prog 31 #[.agg (cells s)] w fun e w' => e = .returned (.tuple #[.agg (cellsF (readH s).1), .int .i64 (readH s).2]) ∧ Below w.heap.size w w' := by
  have hz := zero_sector
  have hzi := zero_head
  obtain ⟨d, hd1, hd2⟩ := row_head
  have b1 := below_box w (.cells (cells s) 31)
  have n1 := heap_alloc_new w (.cells (cells s) 31)
  obtain ⟨w1, hw1⟩ : ∃ w1, w.alloc (.cells (cells s) 31) = w1 := ⟨_, rfl⟩
  have hs1 : w1.heap.size = w.heap.size + 1 := by rw [← hw1]; simp
  rw [hw1] at b1 n1
  have b2 := below_box w1 (.cells (cellsF zeroH) 70)
  have n2 := heap_alloc_new w1 (.cells (cellsF zeroH) 70)
  have n1' := (b2.block w.heap.size (by omega)).trans n1
  have HB := Lib.hid (below_next b1 b2)
  rw [hs1] at n2
  obtain ⟨w2, hw2⟩ : ∃ w2, w1.alloc (.cells (cellsF zeroH) 70) = w2 := ⟨_, rfl⟩
  rw [hw2] at n2 n1' HB
  have hs2 : w2.heap.size = w.heap.size + 2 := by rw [← hw2]; simp [hs1]
  have HC := Lib.hid (block_cells hs n1')
  clear b1 n1 b2
  go_enter Try.func31, Try.ntmps31
  go_wp2_with (refine wpList_load_sector rfl _ rfl w.heap.size 0 s rfl hs HC.out ?_)
  refine (read_head s hs hbs w2).mono ?_
  rintro e w3 ⟨rfl, b3⟩
  have n3 := (b3.block (w.heap.size + 1) (by omega)).trans n2
  have hx15 : (readH s).1.length = 6 := by
    unfold readH
    split
    · unfold rdH; rw [stO_length]; rfl
    · rfl
  obtain ⟨x, hse⟩ : ∃ x, (readH s).1 = x := ⟨_, rfl⟩
  obtain ⟨er, here⟩ : ∃ er, (readH s).2 = er := ⟨_, rfl⟩
  have HS := Lib.hid (And.intro hse here)
  rw [hse, here]
  rw [hse] at hx15
  have hsx2 : (Try.prog.info? 70).map (·.size) = some (cellsF x).size := by rw [cellsF_size, hx15]; exact size_head
  have hold : (cellsF zeroH).size = (cellsF x).size := by rw [cellsF_size, cellsF_size, hx15]; rfl
  have hone := cellsF_one x
  have hd := setRow_heap w3 (w.heap.size + 1) _ (cellsF x) _ _ n3
  have hb := below_setRow (g := w.heap.size + 1) (HB.out.trans (b3.mono HB.out.size)) (by omega) (cellsF x)
  clear b3 n1' n2 HB hw1 hw2 hs1 hs2 hse here HC
  go_wp2_with (refine wpList_store_row rfl 70 _ _ rfl (w.heap.size + 1) (cellsF x) rfl rfl _ _ n3 hsx2 hold hone ?_)
  refine bodyPost_ret (results_head rfl _ _ (w.heap.size + 1) x _ _ rfl hd hx15) rfl ?_
  exact ⟨by rw [HS.out.1, HS.out.2]; rfl, hb⟩

end Go.Proofs.Ytpmfkamagdifgaa
