/- A region's header, written in a sealed sector, and read back: the program's. The document's own Make, by its walks. One byte that is another one changes the sum: plainly; no program is spoken of but in the names of the lists. The laws' own turn of a sealed sector: whatever it makes, it is a sector of bytes. -/
import Derived.Test.YtgakidimipipeaaGreatGolgphjcg
import Derived.Test.YtgakidimipipeaaGreatGkjcciiaj
import Derived.Test.YtgakidimipipeaaGreatGbogodnbb
import Derived.Test.YtgakidimipipeaaGreatGldejmhmc
import Derived.Test.YtgakidimipipeaaGreatGhgmkjijg
import Derived.Test.YtgakidimipipeaaGreatGegjignoa
namespace Go.Proofs.YtgakidimipipeaaGreat
open Go.RowKit Go.Sort
set_option linter.unusedVariables false
set_option linter.unusedSimpArgs false
set_option maxRecDepth 100000

theorem head_widths {l : List FldD} (h : IsHead l) : widths l = 26 := by
  have e : l.map (·.width) = (List.range 6).map widthH := by
    apply List.ext_getElem?
    intro m
    by_cases hm : m < 6
    · obtain ⟨z, hz, _⟩ := h.2 m hm
      rw [List.getElem?_map, List.getElem?_map, hz, List.getElem?_range hm]
      rfl
    · rw [List.getElem?_eq_none (by simp [h.1]; omega), List.getElem?_eq_none (by simp; omega)]
  rw [widths_sum, e]
  decide
def mayH (l : List FldD) : Bool := true
def writeH (l : List FldD) : List Nat × Int := if mayH l = false ∨ wrF l = true then (noughts, 1) else (sealL 6 (wrB l), 0)
theorem headerMay_is {l : List FldD} (hl : IsHead l) (w : World) : Calls Tryz.prog 58 #[.agg (cellsF l)] w fun e w' => e = .returned (.bool (mayH l)) ∧ Below w.heap.size w w' := by
  have b1 := below_box w (.cells (cellsF l) 72)
  obtain ⟨w1, hw1⟩ : ∃ w1, w.alloc (.cells (cellsF l) 72) = w1 := ⟨_, rfl⟩
  rw [hw1] at b1
  go_enter Tryz.func58, Tryz.ntmps58
  go_wp2
  go_ret
  exact ⟨rfl, b1⟩

set_option maxHeartbeats 1600000 in
theorem write_head {l : List FldD} (hl : IsHead l) (w : World) :
    Calls Tryz.prog 99 #[.int .u8 6, .agg (cellsF l), .func (.func 58) #[] #[], .func (.func 59) #[] #[]] w fun e w' => e = .returned (.tuple #[.agg (cells (writeH l).1), .int .i64 (writeH l).2]) ∧ Below w.heap.size w w' := by
  have hz := zero_sector
  have hbld := build_sector
  have hwd := head_widths hl
  obtain ⟨d, hd1, hd2⟩ := row_head
  have hsi : (Tryz.prog.info? 72).map (·.size) = some (rowV l).length := by unfold rowV; rw [List.length_map, hl.1]; exact size_head
  have b1 := below_box w (.cells (cellsF l) 72)
  have n1 := heap_alloc_new w (.cells (cellsF l) 72)
  obtain ⟨w1, hw1⟩ : ∃ w1, w.alloc (.cells (cellsF l) 72) = w1 := ⟨_, rfl⟩
  have hs1 : w1.heap.size = w.heap.size + 1 := by rw [← hw1]; simp
  rw [hw1] at b1 n1
  have b2 := below_box w1 (.cells (cells noughts) 31)
  have n2 := heap_alloc_new w1 (.cells (cells noughts) 31)
  have n1' := (b2.block w.heap.size (by omega)).trans n1
  have hr1 := rowV_range n1'
  have HB := Lib.hid (below_next b1 b2)
  rw [hs1] at n2
  obtain ⟨w2, hw2⟩ : ∃ w2, w1.alloc (.cells (cells noughts) 31) = w2 := ⟨_, rfl⟩
  rw [hw2] at n2 n1' hr1 HB
  have hs2 : w2.heap.size = w.heap.size + 2 := by rw [← hw2]; simp [hs1]
  clear b1 n1 b2
  go_enter Tryz.func99, Tryz.ntmps99
  go_wp2_with (refine wpList_load_mid rfl 72 _ rfl w.heap.size 0 (by go_simp) (rowV l) d hr1 hd1 hd2 hsi ?_)
  refine (headerMay_is hl w2).mono ?_
  rintro e w3 ⟨rfl, b3⟩
  have n1'' := (b3.block w.heap.size (by omega)).trans n1'
  have n2'' := (b3.block (w.heap.size + 1) (by omega)).trans n2
  have HB3 : Hid (Below w.heap.size w w3) := HB.out.trans (b3.mono HB.out.size)
  have hs3 : w.heap.size + 2 ≤ w3.heap.size := by have := b3.size; omega
  have hr3 := rowV_range n1''
  clear b3 n1' n2 hr1 HB hw1 hw2 hs1 hs2
  cases hm : mayH l with
  | false =>
    have hfin : writeH l = (noughts, 1) := if_pos (.inl hm)
    have HF := Lib.hid hfin
    clear hfin
    have hd := setRow_heap w3 (w.heap.size + 1) _ (cells noughts) _ _ n2''
    have hb := below_setRow (g := w.heap.size + 1) HB3.out (by omega) (cells noughts)
    go_wp2_with (refine wpList_store_sector rfl _ _ rfl (w.heap.size + 1) noughts (by go_simp) (by go_simp) rfl _ _ n2'' rfl ?_)
    refine bodyPost_ret (results_sector rfl _ _ (w.heap.size + 1) noughts _ _ rfl hd rfl) rfl ?_
    exact ⟨by rw [HF.out]; rfl, hb⟩
  | true =>
    go_wp2_with (refine wpList_load_mid rfl 72 _ rfl w.heap.size 0 (by go_simp) (rowV l) d hr3 hd1 hd2 hsi ?_)
    refine (pwrite_head hl (by rw [hwd]; decide) w3).mono ?_
    rintro e w4 ⟨b4, ⟨hf, rfl⟩ | ⟨hf, v, rfl, ho⟩⟩
    · have hfin : writeH l = (noughts, 1) := if_pos (.inr hf)
      have HF := Lib.hid hfin
      clear hfin
      have n4 := (b4.block (w.heap.size + 1) (by omega)).trans n2''
      have hd := setRow_heap w4 (w.heap.size + 1) _ (cells noughts) _ _ n4
      have hb := below_setRow (g := w.heap.size + 1) (HB3.out.trans (b4.mono HB3.out.size)) (by omega) (cells noughts)
      clear b4 n1'' n2'' hr3 hf
      go_wp2_with (refine wpList_store_sector rfl _ _ rfl (w.heap.size + 1) noughts (by go_simp) (by go_simp) rfl _ _ n4 rfl ?_)
      refine bodyPost_ret (results_sector rfl _ _ (w.heap.size + 1) noughts _ _ rfl hd rfl) rfl ?_
      exact ⟨by rw [HF.out]; rfl, hb⟩
    · have hfin : writeH l = (sealL 6 (wrB l), 0) := if_neg (by rw [hm, hf]; simp)
      have HF := Lib.hid hfin
      clear hfin
      have n4 := (b4.block (w.heap.size + 1) (by omega)).trans n2''
      obtain ⟨a4, cap4, rfl, hr4, _, _⟩ := ho.reads
      have HB4 : Hid (Below w.heap.size w w4) := HB3.out.trans (b4.mono HB3.out.size)
      have hs4 := Nat.le_trans hs3 b4.size
      have hlen : (wrB l).length ≤ 120 := by rw [wrB_length, hwd]; decide
      clear b4 n1'' n2'' hr3 ho HB3 hf
      go_wp2_with fail
      refine (make_ok 6 (wrB l) a4 _ cap4 w4 hr4 hlen (by decide) (by decide)).mono ?_
      rintro e w5 ⟨rfl, b5⟩
      have n5 := (b5.block (w.heap.size + 1) (by omega)).trans n4
      have hsl := sealL_length (kind := 6) hlen
      have hd := setRow_heap w5 (w.heap.size + 1) _ (cells (sealL 6 (wrB l))) _ _ n5
      have hb := below_setRow (g := w.heap.size + 1) (HB4.out.trans (b5.mono HB4.out.size)) (by omega) (cells (sealL 6 (wrB l)))
      clear b5 n4 hr4 HB4
      go_wp2_with (refine wpList_store_sector rfl _ _ rfl (w.heap.size + 1) (sealL 6 (wrB l)) (by go_simp) (by go_simp) hsl _ _ n5 rfl ?_)
      refine bodyPost_ret (results_sector rfl _ _ (w.heap.size + 1) (sealL 6 (wrB l)) _ _ rfl hd hsl) rfl ?_
      exact ⟨by rw [HF.out]; rfl, hb⟩

/-! ### Read -/
def readH (s : List Nat) : List FldD × Int := if (writeH (rdH (bO s))).2 = 0 ∧ (writeH (rdH (bO s))).1 = s then (rdH (bO s), 0) else (zeroH, 21)
theorem results_head {fn : Func} {p u : Tmp} (h : fn.results = #[.cell p 72, .tmp u]) (tmps : Array Value) (w : World) (g : Nat) (l : List FldD) (t : TypeId) (fr : Nat × Nat) (hp : tmps.getD p undef = .pointer (some ⟨g, 0, none⟩))
    (hg : w.heap[g]? = some (.cells (cellsF l) t fr)) (hl : l.length = 6) : (results fn tmps).run Tryz.prog w = .ok (.tuple #[.agg (cellsF l), tmps.getD u undef]) w := by
  obtain ⟨d, hd1, hd2⟩ := row_head
  rw [results_cell_tmp h, hp]
  simp only [asAddr, Sem.run_pure, Result.andThen_ok]
  rw [run_loadVar_row w g t 72 (cellsF l) fr d hg hd1 (by cases d <;> first | rfl | exact hd2) (by rw [size_head, cellsF_size, hl])]
  rfl
theorem writeH_length (l : List FldD) (h : IsHead l) : (writeH l).1.length = 128 := by
  unfold writeH
  split
  · rfl
  · exact sealL_length (by rw [wrB_length, head_widths h]; decide)

set_option maxHeartbeats 1600000 in
theorem read_head (s : List Nat) (hs : s.length = 128) (hb : Bytes s) (w : World) :
    Calls Tryz.prog 57 #[.int .u8 6, .agg (cells s), .func (.func 58) #[] #[], .func (.func 59) #[] #[]] w fun e w' => e = .returned (.tuple #[.agg (cellsF (readH s).1), .int .i64 (readH s).2]) ∧ Below w.heap.size w w' := by
  have hz := zero_sector
  have hzi := zero_head
  obtain ⟨d, hd1, hd2⟩ := row_head
  have hsz : ∀ l : List FldD, l.length = 6 → (Tryz.prog.info? 72).map (·.size) = some (rowV l).length := fun l hl => by unfold rowV; rw [List.length_map, hl]; exact size_head
  have hsz2 : ∀ l : List FldD, l.length = 6 → (Tryz.prog.info? 72).map (·.size) = some (cellsF l).size := fun l hl => by rw [cellsF_size, hl]; exact size_head
  have b1 := below_box w (.cells (cells s) 31)
  have n1 := heap_alloc_new w (.cells (cells s) 31)
  obtain ⟨w1, hw1⟩ : ∃ w1, w.alloc (.cells (cells s) 31) = w1 := ⟨_, rfl⟩
  have hs1 : w1.heap.size = w.heap.size + 1 := by rw [← hw1]; simp
  rw [hw1] at b1 n1
  have b2 := below_box w1 (.cells (cellsF zeroH) 72)
  have n2 := heap_alloc_new w1 (.cells (cellsF zeroH) 72)
  have n1' := (b2.block w.heap.size (by omega)).trans n1
  have HB := Lib.hid (below_next b1 b2)
  rw [hs1] at n2
  obtain ⟨w2, hw2⟩ : ∃ w2, w1.alloc (.cells (cellsF zeroH) 72) = w2 := ⟨_, rfl⟩
  rw [hw2] at n2 n1' HB
  have hs2 : w2.heap.size = w.heap.size + 2 := by rw [← hw2]; simp [hs1]
  have HC := Lib.hid (box_cells hs n1')
  clear b1 n1 b2
  go_enter Tryz.func57, Tryz.ntmps57
  go_wp2_with (refine wpList_load_sector rfl _ rfl w.heap.size 0 s (by go_simp) hs HC.out ?_)
  refine (open_any2 s hs hb w2).mono ?_
  rintro e w3 ⟨b3, h3⟩
  have n1'' := (b3.block w.heap.size (by omega)).trans n1'
  have n2'' := (b3.block (w.heap.size + 1) (by omega)).trans n2
  have HB3 : Hid (Below w.heap.size w w3) := HB.out.trans (b3.mono HB.out.size)
  have hs3 : w.heap.size + 2 ≤ w3.heap.size := by have := b3.size; omega
  obtain ⟨k, a3, cap3, er, he, hr3, hc3, hm3⟩ : ∃ (k : Nat) (a3 : Option Addr) (cap3 : Nat) (er : Int), e = .returned (.tuple #[.int .u8 k, .slice a3 (bO s).length cap3, .int .i64 er]) ∧ Reads w3 a3 (bO s).length (bO s) ∧ (bO s).length ≤ cap3 ∧ cap3 ≤ maxLen := by
    rcases h3 with ⟨ho, a, cap, he, hr, hc, hm⟩ | ⟨ho, he⟩
    · have e : bO s = bodyL s := if_pos ho
      rw [e]
      exact ⟨_, a, cap, _, he, hr, hc, hm⟩
    · have e : bO s = [] := if_neg (by rw [ho]; decide)
      rw [e]
      exact ⟨0, none, 0, 21, he, ⟨rfl, by intro x hx; simp at hx, .inl rfl⟩, Nat.le_refl _, by unfold maxLen; omega⟩
  subst he
  have hbb : Bytes (bO s) := hr3.2.1
  clear h3 b3 n1' n2 HB HC hw1 hw2 hs1 hs2
  go_wp2_with fail
  refine (pread_head w3 hr3 hc3 hm3).mono ?_
  rintro e w4 ⟨b4, rfl⟩
  have hIx := rdH_is hbb
  have HX : Hid (readH s = if (writeH (rdH (bO s))).2 = 0 ∧ (writeH (rdH (bO s))).1 = s then (rdH (bO s), 0) else (zeroH, 21)) := rfl
  obtain ⟨x, hx⟩ : ∃ x, rdH (bO s) = x := ⟨_, rfl⟩
  rw [hx] at hIx HX ⊢
  have n1 := (b4.block w.heap.size (by omega)).trans n1''
  have n2 := (b4.block (w.heap.size + 1) (by omega)).trans n2''
  have HB4 : Hid (Below w.heap.size w w4) := HB3.out.trans (b4.mono HB3.out.size)
  have hs4 : w.heap.size + 2 ≤ w4.heap.size := Nat.le_trans hs3 b4.size
  have nz := heap_alloc_new w4 (.cells (cellsF zeroH) 72)
  have b5 := below_box w4 (.cells (cellsF x) 72)
  have nx := heap_alloc_new w4 (.cells (cellsF x) 72)
  have e5 := World.setRow_alloc_new w4 (cellsF zeroH) (cellsF x) 72
  obtain ⟨w5, hw5⟩ : ∃ w5, w4.alloc (.cells (cellsF x) 72) = w5 := ⟨_, rfl⟩
  rw [hw5] at b5 nx e5
  have n15 := (b5.block w.heap.size (by omega)).trans n1
  have n25 := (b5.block (w.heap.size + 1) (by omega)).trans n2
  have HB5 : Hid (Below w.heap.size w w5) := HB4.out.trans (b5.mono HB4.out.size)
  have hs5 : w5.heap.size = w4.heap.size + 1 := by rw [← hw5]; simp
  have hrx := rowV_range nx
  have hsx := hsz x hIx.1
  have hsx2 := hsz2 x hIx.1
  have hold : (cellsF zeroH).size = (cellsF x).size := by rw [cellsF_size, cellsF_size, hIx.1]; rfl
  have honex := cellsF_one x
  obtain ⟨m, hm⟩ : ∃ m, w4.heap.size = m := ⟨_, rfl⟩
  rw [hm] at nx hrx hs5 nz hs4 e5
  clear n1'' n2'' HB3 hs3 b4 n1 n2 HB4 b5 hr3 hc3 hm3 hx hbb hw5
  go_wp2_with (first
    | (refine wpList_store_row rfl 72 _ _ rfl m (cellsF x) (by go_simp) (by go_simp) _ _ nz hsx2 hold honex ?_; rw [e5])
    | refine wpList_load_mid rfl 72 _ rfl m 0 (by go_simp) (rowV x) d hrx hd1 hd2 hsx ?_)
  refine (write_head hIx w5).mono ?_
  rintro e w6 ⟨rfl, b6⟩
  have hmk := writeH_length x hIx
  obtain ⟨mk, hmke⟩ : ∃ mk, (writeH x).1 = mk := ⟨_, rfl⟩
  obtain ⟨er2, here⟩ : ∃ er2, (writeH x).2 = er2 := ⟨_, rfl⟩
  rw [hmke, here] at HX ⊢
  rw [hmke] at hmk
  have n16 := (b6.block w.heap.size (by omega)).trans n15
  have n26 := (b6.block (w.heap.size + 1) (by omega)).trans n25
  have nx6 := (b6.block m (by omega)).trans nx
  have HB6 : Hid (Below w.heap.size w w6) := HB5.out.trans (b6.mono HB5.out.size)
  have hs6 : m + 1 ≤ w6.heap.size := by have := b6.size; omega
  have nn := heap_alloc_new w6 (.cells (cells noughts) 31)
  have b7 := below_box w6 (.cells (cells mk) 31)
  have n7 := heap_alloc_new w6 (.cells (cells mk) 31)
  have e7 := World.setRow_alloc_new w6 (cells noughts) (cells mk) 31
  obtain ⟨w7, hw7⟩ : ∃ w7, w6.alloc (.cells (cells mk) 31) = w7 := ⟨_, rfl⟩
  rw [hw7] at b7 n7 e7
  have hs7 : w7.heap.size = w6.heap.size + 1 := by rw [← hw7]; simp
  have n17 := (b7.block w.heap.size (by omega)).trans n16
  have n27 := (b7.block (w.heap.size + 1) (by omega)).trans n26
  have nx7 := (b7.block m (by omega)).trans nx6
  have HB7 : Hid (Below w.heap.size w w7) := HB6.out.trans (b7.mono HB6.out.size)
  obtain ⟨m2, hm2⟩ : ∃ m2, w6.heap.size = m2 := ⟨_, rfl⟩
  rw [hm2] at n7 e7 nn hs7 hs6
  have HC7 := Lib.hid (block_cells hmk n7)
  have HCs := Lib.hid (block_cells hs n17)
  have hrx7 := rowV_range nx7
  have hneq := run_neq_sector mk s hmk hs
  clear n15 n25 nx HB5 b6 n16 n26 nx6 HB6 b7 hw7 hmke here hrx hold e5 nz hm
  by_cases her : er2 = 0
  · subst her
    by_cases hms : mk = s
    · have hfin : readH s = (x, 0) := HX.out.trans (if_pos ⟨rfl, hms⟩)
      have HF := Lib.hid hfin
      rw [decide_eq_true hms, Bool.not_true] at hneq
      have hd8 := setRow_heap _ (w.heap.size + 1) _ (cellsF x) _ _ n27
      have hb8 := below_setRow (g := w.heap.size + 1) HB7.out (by omega) (cellsF x)
      have hold2 : (cellsF zeroH).size = (cellsF x).size := by rw [cellsF_size, cellsF_size, hIx.1]; rfl
      clear hfin hms
      go_wp2_with (first
        | (refine wpList_store_sector rfl _ _ rfl m2 mk rfl rfl hmk _ _ nn rfl ?_; rw [e7])
        | refine wpList_load_sector_want rfl _ rfl m2 0 mk rfl hmk HC7.out ?_
        | refine wpList_load_sector_want rfl _ rfl w.heap.size 0 s rfl hs HCs.out ?_
        | refine wpList_load_mid rfl 72 _ rfl m 0 rfl (rowV x) d hrx7 hd1 hd2 hsx ?_
        | refine wpList_store_row rfl 72 _ _ rfl (w.heap.size + 1) (cellsF x) rfl rfl _ _ n27 hsx2 hold2 honex ?_)
      refine bodyPost_ret (results_head rfl _ _ (w.heap.size + 1) x _ _ rfl hd8 hIx.1) rfl ?_
      exact ⟨by rw [HF.out]; rfl, hb8⟩
    · rw [decide_eq_false hms, Bool.not_false] at hneq
      have hfin : readH s = (zeroH, 21) := HX.out.trans (if_neg (fun h => hms h.2))
      have HF := Lib.hid hfin
      have b8 := below_box w7 (.cells (cellsF zeroH) 72)
      have n8 := heap_alloc_new w7 (.cells (cellsF zeroH) 72)
      rw [hs7] at n8
      have n28 := (b8.block (w.heap.size + 1) (by omega)).trans n27
      have HB8 : Hid (Below w.heap.size w (w7.alloc (.cells (cellsF zeroH) 72))) := HB7.out.trans (b8.mono HB7.out.size)
      have hr8 := rowV_range n8
      have hs8 := hsz zeroH rfl
      have hs82 := hsz2 zeroH rfl
      have hone8 := cellsF_one zeroH
      have hd8 := setRow_heap _ (w.heap.size + 1) _ (cellsF zeroH) _ _ n28
      have hb8 := below_setRow (g := w.heap.size + 1) HB8.out (by omega) (cellsF zeroH)
      clear b8 HB8 hfin
      go_wp2_with (first
        | (refine wpList_store_sector rfl _ _ rfl m2 mk rfl rfl hmk _ _ nn rfl ?_; rw [e7])
        | refine wpList_load_sector_want rfl _ rfl m2 0 mk rfl hmk HC7.out ?_
        | refine wpList_load_sector_want rfl _ rfl w.heap.size 0 s rfl hs HCs.out ?_
        | refine wpList_load_mid rfl 72 _ rfl (m2 + 1) 0 rfl (rowV zeroH) d hr8 hd1 hd2 hs8 ?_
        | refine wpList_store_row rfl 72 _ _ rfl (w.heap.size + 1) (cellsF zeroH) rfl rfl _ _ n28 hs82 rfl hone8 ?_)
      refine bodyPost_ret (results_head rfl _ _ (w.heap.size + 1) zeroH _ _ rfl hd8 rfl) rfl ?_
      exact ⟨by rw [HF.out]; rfl, hb8⟩
  · have hne0 : (er2 == 0) = false := by simpa using her
    have hfin : readH s = (zeroH, 21) := HX.out.trans (if_neg (fun h => her h.1))
    have HF := Lib.hid hfin
    have b8 := below_box w7 (.cells (cellsF zeroH) 72)
    have n8 := heap_alloc_new w7 (.cells (cellsF zeroH) 72)
    rw [hs7] at n8
    have n28 := (b8.block (w.heap.size + 1) (by omega)).trans n27
    have HB8 : Hid (Below w.heap.size w (w7.alloc (.cells (cellsF zeroH) 72))) := HB7.out.trans (b8.mono HB7.out.size)
    have hr8 := rowV_range n8
    have hs8 := hsz zeroH rfl
    have hs82 := hsz2 zeroH rfl
    have hone8 := cellsF_one zeroH
    have hd8 := setRow_heap _ (w.heap.size + 1) _ (cellsF zeroH) _ _ n28
    have hb8 := below_setRow (g := w.heap.size + 1) HB8.out (by omega) (cellsF zeroH)
    clear b8 HB8 hfin
    go_wp2_with (first
      | (refine wpList_store_sector rfl _ _ rfl m2 mk rfl rfl hmk _ _ nn rfl ?_; rw [e7])
      | refine wpList_load_sector_want rfl _ rfl m2 0 mk rfl hmk HC7.out ?_
      | refine wpList_load_sector_want rfl _ rfl w.heap.size 0 s rfl hs HCs.out ?_
      | refine wpList_load_mid rfl 72 _ rfl (m2 + 1) 0 rfl (rowV zeroH) d hr8 hd1 hd2 hs8 ?_
      | refine wpList_store_row rfl 72 _ _ rfl (w.heap.size + 1) (cellsF zeroH) rfl rfl _ _ n28 hs82 rfl hone8 ?_)
    refine bodyPost_ret (results_head rfl _ _ (w.heap.size + 1) zeroH _ _ rfl hd8 rfl) rfl ?_
    exact ⟨by rw [HF.out]; rfl, hb8⟩
set_option maxHeartbeats 1600000 in
theorem readHeader_is (s : List Nat) (hs : s.length = 128) (hbs : Bytes s) (w : World) :
    Calls Tryz.prog 22 #[.agg (cells s)] w fun e w' => e = .returned (.tuple #[.agg (cellsF (readH s).1), .int .i64 (readH s).2]) ∧ Below w.heap.size w w' := by
  have hz := zero_sector
  have hzi := zero_head
  obtain ⟨d, hd1, hd2⟩ := row_head
  have b1 := below_box w (.cells (cells s) 31)
  have n1 := heap_alloc_new w (.cells (cells s) 31)
  obtain ⟨w1, hw1⟩ : ∃ w1, w.alloc (.cells (cells s) 31) = w1 := ⟨_, rfl⟩
  have hs1 : w1.heap.size = w.heap.size + 1 := by rw [← hw1]; simp
  rw [hw1] at b1 n1
  have b2 := below_box w1 (.cells (cellsF zeroH) 72)
  have n2 := heap_alloc_new w1 (.cells (cellsF zeroH) 72)
  have n1' := (b2.block w.heap.size (by omega)).trans n1
  have HB := Lib.hid (below_next b1 b2)
  rw [hs1] at n2
  obtain ⟨w2, hw2⟩ : ∃ w2, w1.alloc (.cells (cellsF zeroH) 72) = w2 := ⟨_, rfl⟩
  rw [hw2] at n2 n1' HB
  have hs2 : w2.heap.size = w.heap.size + 2 := by rw [← hw2]; simp [hs1]
  have HC := Lib.hid (block_cells hs n1')
  clear b1 n1 b2
  go_enter Tryz.func22, Tryz.ntmps22
  go_wp2_with (refine wpList_load_sector rfl _ rfl w.heap.size 0 s rfl hs HC.out ?_)
  refine (read_head s hs hbs w2).mono ?_
  rintro e w3 ⟨rfl, b3⟩
  have n3 := (b3.block (w.heap.size + 1) (by omega)).trans n2
  have hx15 : (readH s).1.length = 6 := by
    unfold readH
    split
    · unfold rdH; rw [stO_length]; rfl
    · rfl
  obtain ⟨x, hse⟩ : ∃ x, (readH s).1 = x := ⟨_, rfl⟩
  obtain ⟨er, here⟩ : ∃ er, (readH s).2 = er := ⟨_, rfl⟩
  have HS := Lib.hid (And.intro hse here)
  rw [hse, here]
  rw [hse] at hx15
  have hsx2 : (Tryz.prog.info? 72).map (·.size) = some (cellsF x).size := by rw [cellsF_size, hx15]; exact size_head
  have hold : (cellsF zeroH).size = (cellsF x).size := by rw [cellsF_size, cellsF_size, hx15]; rfl
  have hone := cellsF_one x
  have hd := setRow_heap w3 (w.heap.size + 1) _ (cellsF x) _ _ n3
  have hb := below_setRow (g := w.heap.size + 1) (HB.out.trans (b3.mono HB.out.size)) (by omega) (cellsF x)
  clear b3 n1' n2 HB hw1 hw2 hs1 hs2 hse here HC
  go_wp2_with (refine wpList_store_row rfl 72 _ _ rfl (w.heap.size + 1) (cellsF x) rfl rfl _ _ n3 hsx2 hold hone ?_)
  refine bodyPost_ret (results_head rfl _ _ (w.heap.size + 1) x _ _ rfl hd hx15) rfl ?_
  exact ⟨by rw [HS.out.1, HS.out.2]; rfl, hb⟩

end Go.Proofs.YtgakidimipipeaaGreat

namespace Go.Proofs.YtgakidimipipeaaGreat
open Go.RowKit
set_option linter.unusedVariables false
set_option maxRecDepth 100000

theorem first_block_full {w w' : World} {l : List Nat} (h : Below (w.heap.size + 1) (w.alloc (.cells (cells l) 30)) w') : Below w.heap.size w w' ∧ w'.heap[w.heap.size]? = some (.cells (cells l) 30 (0, 0)) :=
  ⟨((Below.refl _ _).alloc (Nat.le_refl _) _).trans (h.mono (by omega)), by rw [h.block _ (by omega)]; exact heap_alloc_new _ _⟩

theorem owns_four (B : Nat) (w : World) (x y : Nat) (hB : B ≤ w.heap.size) (hx : x < 256) (hy : y < 256) : Owns B (w.alloc (.cells #[.int .u8 215, .int .u8 76, .int .u8 x, .int .u8 y] 5)) (.slice (some ⟨w.heap.size, 0, none⟩) 4 4) [215, 76, x, y] := by
  refine ⟨by intro z hz; simp at hz; omega, by rfl, .inr ⟨w.heap.size, 4, _, rfl, hB, heap_alloc_new w _, Nat.le_refl _, by decide, rfl, rfl⟩⟩

theorem fullL_whole {l : List Nat} (h : l.length = 128) : fullL l = l := by
  unfold fullL pad
  rw [List.take_of_length_le (by omega), h]
  simp

/-- The length that a slice says. -/
def lenOfV : Value → Nat
  | .slice _ n _ => n
  | _ => 0

end Go.Proofs.YtgakidimipipeaaGreat

namespace Go.Proofs.YtgakidimipipeaaGreat
set_option linter.unusedVariables false
set_option maxRecDepth 100000

theorem xor_back (a b : Nat) : (a ^^^ b) ^^^ b = a := by rw [Nat.xor_assoc, Nat.xor_self, Nat.xor_zero]
theorem xor_right_inj {a b c : Nat} (h : a ^^^ c = b ^^^ c) : a = b := by rw [← xor_back a c, h, xor_back]
theorem xor_left_inj {a b c : Nat} (h : c ^^^ a = c ^^^ b) : a = b := xor_right_inj (c := c) (by rw [Nat.xor_comm a, Nat.xor_comm b]; exact h)
theorem poly_top {c : Nat} (h : c < 4294967296) : (c / 2 ^^^ 3988292384).testBit 31 = true := by
  rw [Nat.testBit_xor, Nat.testBit_lt_two_pow (x := c / 2) (by omega)]
  decide
theorem half_top {c : Nat} (h : c < 4294967296) : (c / 2).testBit 31 = false := Nat.testBit_lt_two_pow (by omega)
theorem crcBit_inj {c d : Nat} (hc : c < 4294967296) (hd : d < 4294967296) (h : crcBit c = crcBit d) : c = d := by
  unfold crcBit at h
  have tc := poly_top hc
  have td := poly_top hd
  have uc := half_top hc
  have ud := half_top hd
  split at h <;> split at h
  · have := xor_right_inj h
    omega
  · rw [h, ud] at tc; exact absurd tc (by decide)
  · rw [← h, uc] at td; exact absurd td (by decide)
  · omega
theorem crcBits_inj {c d : Nat} (hc : c < 4294967296) (hd : d < 4294967296) (k : Nat) (h : crcBits k c = crcBits k d) : c = d := by
  induction k with
  | zero => exact h
  | succ k ih => exact ih (crcBit_inj (crcBits_lt hc k) (crcBits_lt hd k) h)
theorem crcByte_inj {c d x : Nat} (hc : c < 4294967296) (hd : d < 4294967296) (hx : x < 256) (h : crcByte c x = crcByte d x) : c = d :=
  xor_right_inj (crcBits_inj (xor_lt32 hc (by omega)) (xor_lt32 hd (by omega)) 8 h)
theorem crcByte_inj' {c x y : Nat} (hc : c < 4294967296) (hx : x < 256) (hy : y < 256) (h : crcByte c x = crcByte c y) : x = y :=
  xor_left_inj (crcBits_inj (xor_lt32 hc (by omega)) (xor_lt32 hc (by omega)) 8 h)
theorem crcFold_inj (l : List Nat) (hb : Bytes l) : ∀ c d, c < 4294967296 → d < 4294967296 → l.foldl crcByte c = l.foldl crcByte d → c = d := by
  induction l with
  | nil => intro c d _ _ h; exact h
  | cons x l ih =>
    intro c d hc hd h
    have hx : x < 256 := hb x (by simp)
    exact crcByte_inj hc hd hx (ih (fun y hy => hb y (by simp [hy])) _ _ (crcByte_lt hc hx) (crcByte_lt hd hx) h)
theorem crc_mid {p q : List Nat} {x y : Nat} (hp : Bytes p) (hq : Bytes q) (hx : x < 256) (hy : y < 256) (h : crc (p ++ x :: q) = crc (p ++ y :: q)) : x = y := by
  have hc := crcRaw_lt p hp
  have e : ∀ z, crcRaw (p ++ z :: q) = q.foldl crcByte (crcByte (crcRaw p) z) := fun z => by simp [crcRaw]
  have hbz : ∀ z, z < 256 → Bytes (p ++ z :: q) := fun z hz => hp.append (by
    intro a ha
    rcases List.mem_cons.1 ha with rfl | ha
    · exact hz
    · exact hq a ha)
  have h1 := crcRaw_lt _ (hbz x hx)
  have h2 := crcRaw_lt _ (hbz y hy)
  have h3 : crcRaw (p ++ x :: q) = crcRaw (p ++ y :: q) := by unfold crc at h; omega
  rw [e, e] at h3
  exact crcByte_inj' hc hx hy (crcFold_inj q hq _ _ (crcByte_lt hc hx) (crcByte_lt hc hy) h3)

theorem set_split (l : List Nat) (i v : Nat) (h : i < l.length) : l.set i v = l.take i ++ v :: l.drop (i + 1) := by
  rw [List.set_eq_take_append_cons_drop, if_pos h]

theorem Bytes.set {l : List Nat} (h : Bytes l) (i v : Nat) (hv : v < 256) : Bytes (l.set i v) := by
  intro x hx
  rcases List.mem_or_eq_of_mem_set hx with h1 | rfl
  · exact h x h1
  · exact hv

theorem sealL_turn {k k' : Nat} {b b' : List Nat} (hk : k < 256) (hbb : Bytes b) (hb : b.length ≤ 120) (hb' : b'.length ≤ 120) {i v : Nat} (hi : i < 128) (hv : v < 256) (h : sealL k' b' = (sealL k b).set i v) : (sealL k b).getD i 0 = v := by
  have hl := headL_length (kind := k) hb
  have hl' := headL_length (kind := k') hb'
  have hB := headL_bytes hk hbb hb
  have hs := sealL_length (kind := k) hb
  by_cases hlt : i < 124
  · have e : (sealL k b).set i v = (headL k b).set i v ++ low (crc (headL k b)) 4 := by unfold sealL; rw [List.set_append_left _ _ (by omega)]
    rw [e] at h
    have h' : headL k' b' ++ low (crc (headL k' b')) 4 = (headL k b).set i v ++ low (crc (headL k b)) 4 := h
    obtain ⟨h1, h2⟩ := List.append_inj h' (by rw [List.length_set, hl, hl'])
    rw [h1] at h2
    have h3 : crc ((headL k b).set i v) = crc (headL k b) := by
      have a1 := le_low (crc ((headL k b).set i v)) 4 (crc_lt _)
      have a2 := le_low (crc (headL k b)) 4 (crc_lt _)
      rw [h2] at a1
      have := crc_lt ((headL k b).set i v)
      have := crc_lt (headL k b)
      omega
    have h4 : headL k b = (headL k b).take i ++ (headL k b)[i]'(by omega) :: (headL k b).drop (i + 1) := by simp
    rw [set_split _ _ _ (by omega)] at h3
    have h5 : crc ((headL k b).take i ++ v :: (headL k b).drop (i + 1)) = crc ((headL k b).take i ++ (headL k b)[i]'(by omega) :: (headL k b).drop (i + 1)) := by rw [← h4]; exact h3
    have h6 := crc_mid (fun x hx => hB x (List.mem_of_mem_take hx)) (fun x hx => hB x (List.mem_of_mem_drop hx)) hv (hB _ (List.getElem_mem _)) h5
    rw [h6]
    unfold sealL
    rw [List.getD_eq_getElem?_getD, List.getElem?_append_left (by omega), List.getElem?_eq_getElem (by omega)]
    rfl
  · have e : headL k' b' = headL k b := by
      have := congrArg (List.take 124) h
      rw [List.take_set_of_le (by omega)] at this
      unfold sealL at this
      rw [List.take_append_of_le_length (by omega), List.take_append_of_le_length (by omega), List.take_of_length_le (by omega), List.take_of_length_le (by omega)] at this
      exact this
    have h1 : sealL k' b' = sealL k b := by unfold sealL; rw [e]
    rw [h1] at h
    have h2 : (sealL k b)[i]'(by omega) = ((sealL k b).set i v)[i]'(by rw [List.length_set]; omega) := List.getElem_of_eq h _
    rw [List.getElem_set_self] at h2
    rw [List.getD_eq_getElem?_getD, List.getElem?_eq_getElem (by omega), h2]
    rfl

theorem openB_turn {k : Nat} {b : List Nat} (hk : k < 256) (hbb : Bytes b) (hb : b.length ≤ 120) {i v : Nat} (hi : i < 128) (hv : v < 256) (hne : (sealL k b).getD i 0 ≠ v) : openB ((sealL k b).set i v) = false := by
  unfold openB
  apply decide_eq_false
  rintro ⟨_, h2, h3⟩
  exact hne (sealL_turn hk hbb hb h2 hi hv h3)
theorem set_same {l : List Nat} {i v : Nat} (h : l.getD i 0 = v) (hi : i < l.length) : l.set i v = l := by
  rw [List.getD_eq_getElem?_getD, List.getElem?_eq_getElem hi] at h
  subst h
  exact List.set_getElem_self hi
end Go.Proofs.YtgakidimipipeaaGreat

namespace Go.Proofs.YtgakidimipipeaaGreat
open Go.RowKit Go.Sort
set_option linter.unusedVariables false
set_option linter.unusedSimpArgs false
set_option maxRecDepth 100000

theorem results_turn {fn : Func} {p : Tmp} (h : fn.results = #[.cell p 31]) (tmps : Array Value) (w : World) (g : Nat) (l : List Nat) (t : TypeId) (fr : Nat × Nat) (hp : tmps.getD p undef = .pointer (some ⟨g, 0, none⟩))
    (hg : w.heap[g]? = some (.cells (cells l) t fr)) (hl : l.length = 128) : (results fn tmps).run Tryz.prog w = .ok (.agg (cells l)) w :=
  results_cell_row h tmps w g t (cells l) fr _ hp hg row_sector rfl (by rw [size_sector, cells_size, hl])

end Go.Proofs.YtgakidimipipeaaGreat
