/- An inode, written in a sealed sector, and read back: the program's. part.Num at one kind of numbers: uint64. Slices of values of one cell each (numbers, truths, texts): what they read as; rows that a call owns; append onto them, of whatever source. -/
import Derived.Test.YtgakidimipipeaaGreatGgndplpbm
import Derived.Test.YtgakidimipipeaaGreatGegjignoa
import Derived.Test.YtgakidimipipeaaGreatGbogodnbb
import Derived.OwnWalk
import Derived.BigFrame
import Derived.Laws.AppendOwnNone
import Derived.Laws.OwnMore
import Derived.Below
namespace Go.Proofs.YtgakidimipipeaaGreat
open Go.RowKit Go.Sort
set_option linter.unusedVariables false
set_option linter.unusedSimpArgs false
set_option maxRecDepth 100000

theorem stS_length : ∀ (l : List FldD) (b : List Nat) (f : Bool), ∃ b' f', stS (.wr b f) l = .wr b' f' ∧ b'.length = b.length + widths l
  | [], b, f => ⟨b, f, rfl, by simp [widths]⟩
  | x :: l, b, f => by
    show ∃ b' f', stS (PS.next (.wr b f) x.width (u64of x.z)) l = .wr b' f' ∧ b'.length = b.length + (x.width + widths l)
    unfold PS.next
    dsimp only
    split
    · obtain ⟨b', f', h1, h2⟩ := stS_length l (b ++ low (u64of x.z) x.width) f
      exact ⟨b', f', h1, by rw [h2, List.length_append, low_length]; omega⟩
    · obtain ⟨b', f', h1, h2⟩ := stS_length l (b ++ List.replicate x.width 0) true
      exact ⟨b', f', h1, by rw [h2, List.length_append, List.length_replicate]; omega⟩
theorem wrB_length (l : List FldD) : (wrB l).length = widths l := by
  obtain ⟨b', f', h1, h2⟩ := stS_length l [] false
  unfold wrB
  rw [h1]
  simpa using h2
theorem widths_sum : ∀ (l : List FldD), widths l = (l.map (·.width)).sum
  | [] => rfl
  | x :: l => by show x.width + widths l = _; rw [widths_sum l]; simp
theorem inode_widths {l : List FldD} (h : IsInode l) : widths l = 55 := by
  have e : l.map (·.width) = (List.range 15).map widthI := by
    apply List.ext_getElem?
    intro m
    by_cases hm : m < 15
    · obtain ⟨z, hz, _⟩ := h.2 m hm
      rw [List.getElem?_map, List.getElem?_map, hz, List.getElem?_range hm]
      rfl
    · rw [List.getElem?_eq_none (by simp [h.1]; omega), List.getElem?_eq_none (by simp; omega)]
  rw [widths_sum, e]
  decide

def fieldZ (l : List FldD) (m : Nat) : Int := ((l[m]?).map (·.z)).getD 0
def mayI (l : List FldD) : Bool := decide (1 ≤ fieldZ l 2 ∧ fieldZ l 2 ≤ 2)
def writeI (l : List FldD) : List Nat × Int := if mayI l = false ∨ wrF l = true then (noughts, 1) else (sealL 2 (wrB l), 0)
def rowV (l : List FldD) : List Value := l.map fun x => Value.int x.kind x.z
theorem rowV_range {w : World} {g : Nat} {l : List FldD} {t : TypeId} (h : w.heap[g]? = some (.cells (cellsF l) t (0, 0))) : w.rangeAt g 0 (rowV l) := fun j v hv => by
  rw [Nat.zero_add, cell_of_row h]
  unfold cellsF
  rw [List.getElem?_toArray]
  exact hv
theorem among_is (n a b : Int) (w : World) : Calls Tryz.prog 39 #[.int .i64 n, .int .i64 a, .int .i64 b] w fun e w' => e = .returned (.bool (decide (a ≤ n ∧ n ≤ b))) ∧ w = w' := by
  by_cases h1 : a ≤ n
  · by_cases h2 : n ≤ b
    · have e : decide (a ≤ n ∧ n ≤ b) = true := decide_eq_true ⟨h1, h2⟩
      rw [e]
      go_enter Tryz.func39, Tryz.ntmps39
      go_wp2
      go_ret
      exact ⟨by simp [h2], rfl⟩
    · have e : decide (a ≤ n ∧ n ≤ b) = false := decide_eq_false fun h => h2 h.2
      rw [e]
      go_enter Tryz.func39, Tryz.ntmps39
      go_wp2
      go_ret
      exact ⟨by first | (simp; done) | (simp; omega), rfl⟩
  · have e : decide (a ≤ n ∧ n ≤ b) = false := decide_eq_false fun h => h1 h.1
    rw [e]
    go_enter Tryz.func39, Tryz.ntmps39
    go_wp2
    go_ret
    exact ⟨by first | (simp; done) | (simp; omega), rfl⟩
theorem inodeMay_is {l : List FldD} (hl : IsInode l) (w : World) : Calls Tryz.prog 26 #[.agg (cellsF l)] w fun e w' => e = .returned (.bool (mayI l)) ∧ Below w.heap.size w w' := by
  obtain ⟨z, hz, _⟩ := hl.2 2 (by decide)
  have e : fieldZ l 2 = z := by unfold fieldZ; rw [hz]; rfl
  have hm : mayI l = decide (1 ≤ z ∧ z ≤ 2) := by unfold mayI; rw [e]
  rw [hm]
  have b1 := below_box w (.cells (cellsF l) 37)
  have n1 := heap_alloc_new w (.cells (cellsF l) 37)
  obtain ⟨w1, hw1⟩ : ∃ w1, w.alloc (.cells (cellsF l) 37) = w1 := ⟨_, rfl⟩
  rw [hw1] at b1 n1
  have c2 : w1.cell? ⟨w.heap.size, 2, none⟩ = some (.int .i64 z) := by
    rw [cell_of_row n1]
    unfold cellsF
    simp only [List.getElem?_toArray, List.getElem?_map, hz]
    rfl
  clear n1 hm e hz
  go_enter Tryz.func26, Tryz.ntmps26
  go_wp2_with fail
  refine (among_is z 1 2 w1).mono ?_
  rintro e w2 ⟨rfl, rfl⟩
  go_wp2
  go_ret
  exact ⟨by simp, b1⟩

set_option maxHeartbeats 1600000 in
theorem write_inode {l : List FldD} (hl : IsInode l) (w : World) :
    Calls Tryz.prog 25 #[.int .u8 2, .agg (cellsF l), .func (.func 26) #[] #[], .func (.func 27) #[] #[]] w fun e w' => e = .returned (.tuple #[.agg (cells (writeI l).1), .int .i64 (writeI l).2]) ∧ Below w.heap.size w w' := by
  have hz := zero_sector
  have hbld := build_sector
  have hwd := inode_widths hl
  obtain ⟨d, hd1, hd2⟩ := row_inode
  have hsi : (Tryz.prog.info? 37).map (·.size) = some (rowV l).length := by unfold rowV; rw [List.length_map, hl.1]; exact size_inode
  have b1 := below_box w (.cells (cellsF l) 37)
  have n1 := heap_alloc_new w (.cells (cellsF l) 37)
  obtain ⟨w1, hw1⟩ : ∃ w1, w.alloc (.cells (cellsF l) 37) = w1 := ⟨_, rfl⟩
  have hs1 : w1.heap.size = w.heap.size + 1 := by rw [← hw1]; simp
  rw [hw1] at b1 n1
  have b2 := below_box w1 (.cells (cells noughts) 31)
  have n2 := heap_alloc_new w1 (.cells (cells noughts) 31)
  have n1' := (b2.block w.heap.size (by omega)).trans n1
  have hr1 := rowV_range n1'
  have HB := Lib.hid (below_next b1 b2)
  rw [hs1] at n2
  obtain ⟨w2, hw2⟩ : ∃ w2, w1.alloc (.cells (cells noughts) 31) = w2 := ⟨_, rfl⟩
  rw [hw2] at n2 n1' hr1 HB
  have hs2 : w2.heap.size = w.heap.size + 2 := by rw [← hw2]; simp [hs1]
  clear b1 n1 b2
  go_enter Tryz.func25, Tryz.ntmps25
  go_wp2_with (refine wpList_load_mid rfl 37 _ rfl w.heap.size 0 (by go_simp) (rowV l) d hr1 hd1 hd2 hsi ?_)
  refine (inodeMay_is hl w2).mono ?_
  rintro e w3 ⟨rfl, b3⟩
  have n1'' := (b3.block w.heap.size (by omega)).trans n1'
  have n2'' := (b3.block (w.heap.size + 1) (by omega)).trans n2
  have HB3 : Hid (Below w.heap.size w w3) := HB.out.trans (b3.mono HB.out.size)
  have hs3 : w.heap.size + 2 ≤ w3.heap.size := by have := b3.size; omega
  have hr3 := rowV_range n1''
  clear b3 n1' n2 hr1 HB hw1 hw2 hs1 hs2
  cases hm : mayI l with
  | false =>
    have hfin : writeI l = (noughts, 1) := if_pos (.inl hm)
    have HF := Lib.hid hfin
    clear hfin
    have hd := setRow_heap w3 (w.heap.size + 1) _ (cells noughts) _ _ n2''
    have hb := below_setRow (g := w.heap.size + 1) HB3.out (by omega) (cells noughts)
    go_wp2_with (refine wpList_store_sector rfl _ _ rfl (w.heap.size + 1) noughts (by go_simp) (by go_simp) rfl _ _ n2'' rfl ?_)
    refine bodyPost_ret (results_sector rfl _ _ (w.heap.size + 1) noughts _ _ rfl hd rfl) rfl ?_
    exact ⟨by rw [HF.out]; rfl, hb⟩
  | true =>
    go_wp2_with (refine wpList_load_mid rfl 37 _ rfl w.heap.size 0 (by go_simp) (rowV l) d hr3 hd1 hd2 hsi ?_)
    refine (pwrite_inode hl (by rw [hwd]; decide) w3).mono ?_
    rintro e w4 ⟨b4, ⟨hf, rfl⟩ | ⟨hf, v, rfl, ho⟩⟩
    · have hfin : writeI l = (noughts, 1) := if_pos (.inr hf)
      have HF := Lib.hid hfin
      clear hfin
      have n4 := (b4.block (w.heap.size + 1) (by omega)).trans n2''
      have hd := setRow_heap w4 (w.heap.size + 1) _ (cells noughts) _ _ n4
      have hb := below_setRow (g := w.heap.size + 1) (HB3.out.trans (b4.mono HB3.out.size)) (by omega) (cells noughts)
      clear b4 n1'' n2'' hr3 hf
      go_wp2_with (refine wpList_store_sector rfl _ _ rfl (w.heap.size + 1) noughts (by go_simp) (by go_simp) rfl _ _ n4 rfl ?_)
      refine bodyPost_ret (results_sector rfl _ _ (w.heap.size + 1) noughts _ _ rfl hd rfl) rfl ?_
      exact ⟨by rw [HF.out]; rfl, hb⟩
    · have hfin : writeI l = (sealL 2 (wrB l), 0) := if_neg (by rw [hm, hf]; simp)
      have HF := Lib.hid hfin
      clear hfin
      have n4 := (b4.block (w.heap.size + 1) (by omega)).trans n2''
      obtain ⟨a4, cap4, rfl, hr4, _, _⟩ := ho.reads
      have HB4 : Hid (Below w.heap.size w w4) := HB3.out.trans (b4.mono HB3.out.size)
      have hs4 := Nat.le_trans hs3 b4.size
      have hlen : (wrB l).length ≤ 120 := by rw [wrB_length, hwd]; decide
      clear b4 n1'' n2'' hr3 ho HB3 hf
      go_wp2_with fail
      refine (make_ok 2 (wrB l) a4 _ cap4 w4 hr4 hlen (by decide) (by decide)).mono ?_
      rintro e w5 ⟨rfl, b5⟩
      have n5 := (b5.block (w.heap.size + 1) (by omega)).trans n4
      have hsl := sealL_length (kind := 2) hlen
      have hd := setRow_heap w5 (w.heap.size + 1) _ (cells (sealL 2 (wrB l))) _ _ n5
      have hb := below_setRow (g := w.heap.size + 1) (HB4.out.trans (b5.mono HB4.out.size)) (by omega) (cells (sealL 2 (wrB l)))
      clear b5 n4 hr4 HB4
      go_wp2_with (refine wpList_store_sector rfl _ _ rfl (w.heap.size + 1) (sealL 2 (wrB l)) (by go_simp) (by go_simp) hsl _ _ n5 rfl ?_)
      refine bodyPost_ret (results_sector rfl _ _ (w.heap.size + 1) (sealL 2 (wrB l)) _ _ rfl hd hsl) rfl ?_
      exact ⟨by rw [HF.out]; rfl, hb⟩

/-! ### Read -/
def bO (s : List Nat) : List Nat := if openB s then bodyL s else []
def readI (s : List Nat) : List FldD × Int := if (writeI (rdI (bO s))).2 = 0 ∧ (writeI (rdI (bO s))).1 = s then (rdI (bO s), 0) else (zeroI, 21)
theorem results_inode {fn : Func} {p u : Tmp} (h : fn.results = #[.cell p 37, .tmp u]) (tmps : Array Value) (w : World) (g : Nat) (l : List FldD) (t : TypeId) (fr : Nat × Nat) (hp : tmps.getD p undef = .pointer (some ⟨g, 0, none⟩))
    (hg : w.heap[g]? = some (.cells (cellsF l) t fr)) (hl : l.length = 15) : (results fn tmps).run Tryz.prog w = .ok (.tuple #[.agg (cellsF l), tmps.getD u undef]) w := by
  obtain ⟨d, hd1, hd2⟩ := row_inode
  rw [results_cell_tmp h, hp]
  simp only [asAddr, Sem.run_pure, Result.andThen_ok]
  rw [run_loadVar_row w g t 37 (cellsF l) fr d hg hd1 (by cases d <;> first | rfl | exact hd2) (by rw [size_inode, cellsF_size, hl])]
  rfl
theorem writeI_length (l : List FldD) (h : IsInode l) : (writeI l).1.length = 128 := by
  unfold writeI
  split
  · rfl
  · exact sealL_length (by rw [wrB_length, inode_widths h]; decide)

set_option maxHeartbeats 1600000 in
theorem read_inode (s : List Nat) (hs : s.length = 128) (hb : Bytes s) (w : World) :
    Calls Tryz.prog 45 #[.int .u8 2, .agg (cells s), .func (.func 26) #[] #[], .func (.func 27) #[] #[]] w fun e w' => e = .returned (.tuple #[.agg (cellsF (readI s).1), .int .i64 (readI s).2]) ∧ Below w.heap.size w w' := by
  have hz := zero_sector
  have hzi := zero_inode
  obtain ⟨d, hd1, hd2⟩ := row_inode
  have hsz : ∀ l : List FldD, l.length = 15 → (Tryz.prog.info? 37).map (·.size) = some (rowV l).length := fun l hl => by unfold rowV; rw [List.length_map, hl]; exact size_inode
  have hsz2 : ∀ l : List FldD, l.length = 15 → (Tryz.prog.info? 37).map (·.size) = some (cellsF l).size := fun l hl => by rw [cellsF_size, hl]; exact size_inode
  have b1 := below_box w (.cells (cells s) 31)
  have n1 := heap_alloc_new w (.cells (cells s) 31)
  obtain ⟨w1, hw1⟩ : ∃ w1, w.alloc (.cells (cells s) 31) = w1 := ⟨_, rfl⟩
  have hs1 : w1.heap.size = w.heap.size + 1 := by rw [← hw1]; simp
  rw [hw1] at b1 n1
  have b2 := below_box w1 (.cells (cellsF zeroI) 37)
  have n2 := heap_alloc_new w1 (.cells (cellsF zeroI) 37)
  have n1' := (b2.block w.heap.size (by omega)).trans n1
  have HB := Lib.hid (below_next b1 b2)
  rw [hs1] at n2
  obtain ⟨w2, hw2⟩ : ∃ w2, w1.alloc (.cells (cellsF zeroI) 37) = w2 := ⟨_, rfl⟩
  rw [hw2] at n2 n1' HB
  have hs2 : w2.heap.size = w.heap.size + 2 := by rw [← hw2]; simp [hs1]
  have HC := Lib.hid (box_cells hs n1')
  clear b1 n1 b2
  go_enter Tryz.func45, Tryz.ntmps45
  go_wp2_with (refine wpList_load_sector rfl _ rfl w.heap.size 0 s (by go_simp) hs HC.out ?_)
  refine (open_any2 s hs hb w2).mono ?_
  rintro e w3 ⟨b3, h3⟩
  have n1'' := (b3.block w.heap.size (by omega)).trans n1'
  have n2'' := (b3.block (w.heap.size + 1) (by omega)).trans n2
  have HB3 : Hid (Below w.heap.size w w3) := HB.out.trans (b3.mono HB.out.size)
  have hs3 : w.heap.size + 2 ≤ w3.heap.size := by have := b3.size; omega
  obtain ⟨k, a3, cap3, er, he, hr3, hc3, hm3⟩ : ∃ (k : Nat) (a3 : Option Addr) (cap3 : Nat) (er : Int), e = .returned (.tuple #[.int .u8 k, .slice a3 (bO s).length cap3, .int .i64 er]) ∧ Reads w3 a3 (bO s).length (bO s) ∧ (bO s).length ≤ cap3 ∧ cap3 ≤ maxLen := by
    rcases h3 with ⟨ho, a, cap, he, hr, hc, hm⟩ | ⟨ho, he⟩
    · have e : bO s = bodyL s := if_pos ho
      rw [e]
      exact ⟨_, a, cap, _, he, hr, hc, hm⟩
    · have e : bO s = [] := if_neg (by rw [ho]; decide)
      rw [e]
      exact ⟨0, none, 0, 21, he, ⟨rfl, by intro x hx; simp at hx, .inl rfl⟩, Nat.le_refl _, by unfold maxLen; omega⟩
  subst he
  have hbb : Bytes (bO s) := hr3.2.1
  clear h3 b3 n1' n2 HB HC hw1 hw2 hs1 hs2
  go_wp2_with fail
  refine (pread_inode w3 hr3 hc3 hm3).mono ?_
  rintro e w4 ⟨b4, rfl⟩
  have hIx := rdI_is hbb
  have HX : Hid (readI s = if (writeI (rdI (bO s))).2 = 0 ∧ (writeI (rdI (bO s))).1 = s then (rdI (bO s), 0) else (zeroI, 21)) := rfl
  obtain ⟨x, hx⟩ : ∃ x, rdI (bO s) = x := ⟨_, rfl⟩
  rw [hx] at hIx HX ⊢
  have n1 := (b4.block w.heap.size (by omega)).trans n1''
  have n2 := (b4.block (w.heap.size + 1) (by omega)).trans n2''
  have HB4 : Hid (Below w.heap.size w w4) := HB3.out.trans (b4.mono HB3.out.size)
  have hs4 : w.heap.size + 2 ≤ w4.heap.size := Nat.le_trans hs3 b4.size
  have nz := heap_alloc_new w4 (.cells (cellsF zeroI) 37)
  have b5 := below_box w4 (.cells (cellsF x) 37)
  have nx := heap_alloc_new w4 (.cells (cellsF x) 37)
  have e5 := World.setRow_alloc_new w4 (cellsF zeroI) (cellsF x) 37
  obtain ⟨w5, hw5⟩ : ∃ w5, w4.alloc (.cells (cellsF x) 37) = w5 := ⟨_, rfl⟩
  rw [hw5] at b5 nx e5
  have n15 := (b5.block w.heap.size (by omega)).trans n1
  have n25 := (b5.block (w.heap.size + 1) (by omega)).trans n2
  have HB5 : Hid (Below w.heap.size w w5) := HB4.out.trans (b5.mono HB4.out.size)
  have hs5 : w5.heap.size = w4.heap.size + 1 := by rw [← hw5]; simp
  have hrx := rowV_range nx
  have hsx := hsz x hIx.1
  have hsx2 := hsz2 x hIx.1
  have hold : (cellsF zeroI).size = (cellsF x).size := by rw [cellsF_size, cellsF_size, hIx.1]; rfl
  have honex := cellsF_one x
  obtain ⟨m, hm⟩ : ∃ m, w4.heap.size = m := ⟨_, rfl⟩
  rw [hm] at nx hrx hs5 nz hs4 e5
  clear n1'' n2'' HB3 hs3 b4 n1 n2 HB4 b5 hr3 hc3 hm3 hx hbb hw5
  go_wp2_with (first
    | (refine wpList_store_row rfl 37 _ _ rfl m (cellsF x) (by go_simp) (by go_simp) _ _ nz hsx2 hold honex ?_; rw [e5])
    | refine wpList_load_mid rfl 37 _ rfl m 0 (by go_simp) (rowV x) d hrx hd1 hd2 hsx ?_)
  refine (write_inode hIx w5).mono ?_
  rintro e w6 ⟨rfl, b6⟩
  have hmk := writeI_length x hIx
  obtain ⟨mk, hmke⟩ : ∃ mk, (writeI x).1 = mk := ⟨_, rfl⟩
  obtain ⟨er2, here⟩ : ∃ er2, (writeI x).2 = er2 := ⟨_, rfl⟩
  rw [hmke, here] at HX ⊢
  rw [hmke] at hmk
  have n16 := (b6.block w.heap.size (by omega)).trans n15
  have n26 := (b6.block (w.heap.size + 1) (by omega)).trans n25
  have nx6 := (b6.block m (by omega)).trans nx
  have HB6 : Hid (Below w.heap.size w w6) := HB5.out.trans (b6.mono HB5.out.size)
  have hs6 : m + 1 ≤ w6.heap.size := by have := b6.size; omega
  have nn := heap_alloc_new w6 (.cells (cells noughts) 31)
  have b7 := below_box w6 (.cells (cells mk) 31)
  have n7 := heap_alloc_new w6 (.cells (cells mk) 31)
  have e7 := World.setRow_alloc_new w6 (cells noughts) (cells mk) 31
  obtain ⟨w7, hw7⟩ : ∃ w7, w6.alloc (.cells (cells mk) 31) = w7 := ⟨_, rfl⟩
  rw [hw7] at b7 n7 e7
  have hs7 : w7.heap.size = w6.heap.size + 1 := by rw [← hw7]; simp
  have n17 := (b7.block w.heap.size (by omega)).trans n16
  have n27 := (b7.block (w.heap.size + 1) (by omega)).trans n26
  have nx7 := (b7.block m (by omega)).trans nx6
  have HB7 : Hid (Below w.heap.size w w7) := HB6.out.trans (b7.mono HB6.out.size)
  obtain ⟨m2, hm2⟩ : ∃ m2, w6.heap.size = m2 := ⟨_, rfl⟩
  rw [hm2] at n7 e7 nn hs7 hs6
  have HC7 := Lib.hid (block_cells hmk n7)
  have HCs := Lib.hid (block_cells hs n17)
  have hrx7 := rowV_range nx7
  have hneq := run_neq_sector mk s hmk hs
  clear n15 n25 nx HB5 b6 n16 n26 nx6 HB6 b7 hw7 hmke here hrx hold e5 nz hm
  by_cases her : er2 = 0
  · subst her
    by_cases hms : mk = s
    · have hfin : readI s = (x, 0) := HX.out.trans (if_pos ⟨rfl, hms⟩)
      have HF := Lib.hid hfin
      rw [decide_eq_true hms, Bool.not_true] at hneq
      have hd8 := setRow_heap _ (w.heap.size + 1) _ (cellsF x) _ _ n27
      have hb8 := below_setRow (g := w.heap.size + 1) HB7.out (by omega) (cellsF x)
      have hold2 : (cellsF zeroI).size = (cellsF x).size := by rw [cellsF_size, cellsF_size, hIx.1]; rfl
      clear hfin hms
      go_wp2_with (first
        | (refine wpList_store_sector rfl _ _ rfl m2 mk rfl rfl hmk _ _ nn rfl ?_; rw [e7])
        | refine wpList_load_sector_want rfl _ rfl m2 0 mk rfl hmk HC7.out ?_
        | refine wpList_load_sector_want rfl _ rfl w.heap.size 0 s rfl hs HCs.out ?_
        | refine wpList_load_mid rfl 37 _ rfl m 0 rfl (rowV x) d hrx7 hd1 hd2 hsx ?_
        | refine wpList_store_row rfl 37 _ _ rfl (w.heap.size + 1) (cellsF x) rfl rfl _ _ n27 hsx2 hold2 honex ?_)
      refine bodyPost_ret (results_inode rfl _ _ (w.heap.size + 1) x _ _ rfl hd8 hIx.1) rfl ?_
      exact ⟨by rw [HF.out]; rfl, hb8⟩
    · rw [decide_eq_false hms, Bool.not_false] at hneq
      have hfin : readI s = (zeroI, 21) := HX.out.trans (if_neg (fun h => hms h.2))
      have HF := Lib.hid hfin
      have b8 := below_box w7 (.cells (cellsF zeroI) 37)
      have n8 := heap_alloc_new w7 (.cells (cellsF zeroI) 37)
      rw [hs7] at n8
      have n28 := (b8.block (w.heap.size + 1) (by omega)).trans n27
      have HB8 : Hid (Below w.heap.size w (w7.alloc (.cells (cellsF zeroI) 37))) := HB7.out.trans (b8.mono HB7.out.size)
      have hr8 := rowV_range n8
      have hs8 := hsz zeroI rfl
      have hs82 := hsz2 zeroI rfl
      have hone8 := cellsF_one zeroI
      have hd8 := setRow_heap _ (w.heap.size + 1) _ (cellsF zeroI) _ _ n28
      have hb8 := below_setRow (g := w.heap.size + 1) HB8.out (by omega) (cellsF zeroI)
      clear b8 HB8 hfin
      go_wp2_with (first
        | (refine wpList_store_sector rfl _ _ rfl m2 mk rfl rfl hmk _ _ nn rfl ?_; rw [e7])
        | refine wpList_load_sector_want rfl _ rfl m2 0 mk rfl hmk HC7.out ?_
        | refine wpList_load_sector_want rfl _ rfl w.heap.size 0 s rfl hs HCs.out ?_
        | refine wpList_load_mid rfl 37 _ rfl (m2 + 1) 0 rfl (rowV zeroI) d hr8 hd1 hd2 hs8 ?_
        | refine wpList_store_row rfl 37 _ _ rfl (w.heap.size + 1) (cellsF zeroI) rfl rfl _ _ n28 hs82 rfl hone8 ?_)
      refine bodyPost_ret (results_inode rfl _ _ (w.heap.size + 1) zeroI _ _ rfl hd8 rfl) rfl ?_
      exact ⟨by rw [HF.out]; rfl, hb8⟩
  · have hne0 : (er2 == 0) = false := by simpa using her
    have hfin : readI s = (zeroI, 21) := HX.out.trans (if_neg (fun h => her h.1))
    have HF := Lib.hid hfin
    have b8 := below_box w7 (.cells (cellsF zeroI) 37)
    have n8 := heap_alloc_new w7 (.cells (cellsF zeroI) 37)
    rw [hs7] at n8
    have n28 := (b8.block (w.heap.size + 1) (by omega)).trans n27
    have HB8 : Hid (Below w.heap.size w (w7.alloc (.cells (cellsF zeroI) 37))) := HB7.out.trans (b8.mono HB7.out.size)
    have hr8 := rowV_range n8
    have hs8 := hsz zeroI rfl
    have hs82 := hsz2 zeroI rfl
    have hone8 := cellsF_one zeroI
    have hd8 := setRow_heap _ (w.heap.size + 1) _ (cellsF zeroI) _ _ n28
    have hb8 := below_setRow (g := w.heap.size + 1) HB8.out (by omega) (cellsF zeroI)
    clear b8 HB8 hfin
    go_wp2_with (first
      | (refine wpList_store_sector rfl _ _ rfl m2 mk rfl rfl hmk _ _ nn rfl ?_; rw [e7])
      | refine wpList_load_sector_want rfl _ rfl m2 0 mk rfl hmk HC7.out ?_
      | refine wpList_load_sector_want rfl _ rfl w.heap.size 0 s rfl hs HCs.out ?_
      | refine wpList_load_mid rfl 37 _ rfl (m2 + 1) 0 rfl (rowV zeroI) d hr8 hd1 hd2 hs8 ?_
      | refine wpList_store_row rfl 37 _ _ rfl (w.heap.size + 1) (cellsF zeroI) rfl rfl _ _ n28 hs82 rfl hone8 ?_)
    refine bodyPost_ret (results_inode rfl _ _ (w.heap.size + 1) zeroI _ _ rfl hd8 rfl) rfl ?_
    exact ⟨by rw [HF.out]; rfl, hb8⟩
end Go.Proofs.YtgakidimipipeaaGreat

namespace Go.Proofs.YtgakidimipipeaaGreat
open Go.RowKit Go.Sort
set_option linter.unusedVariables false
set_option linter.unusedSimpArgs false
set_option maxRecDepth 100000

set_option maxHeartbeats 1600000 in
theorem pnum_u64 {gx off : Nat} {w : World} {pv : Value} {S : PS} {z : Nat} {cs : Array Value} {t : TypeId} (h : IsPort w pv S) (hx : w.heap[gx]? = some (.cells cs t (0, 0))) (hax : Away w pv S gx) (q : Nat) (hq : 1 ≤ q) (hq8 : q ≤ 8) (hf : S.fits q) (hc : cs[off]? = some (.int .u64 z)) (hz : z < 18446744073709551616) :
    Calls Tryz.prog 71 #[pv, .int .i64 q, .pointer (some ⟨gx, off, none⟩)] w fun e w' => e = .returned (.tuple #[]) ∧ w'.heap[gx]? = some (.cells (cs.setIfInBounds off (.int .u64 (S.num q z : Nat))) t (0, 0)) ∧ Passed gx w pv S w' (S.next q z) := by
  have hgl : gx < w.heap.size := (Array.getElem?_eq_some_iff.1 hx).1
  have c1 : w.drew.cell? ⟨gx, off, none⟩ = some (.int .u64 z) := (cell_of_row hx off).trans hc
  have HX := Lib.hid hx
  have HAX := Lib.hid hax
  have hw64 := u64_small (z := z) (by omega)
  have hk := u64_small hz
  cases S with
  | wr l f =>
    obtain ⟨g, v, rfl, hw⟩ := h
    have HW := Lib.hid hw
    have HF := Lib.hid hf
    have hna := fun n hn w => na_wr n g w hn
    have hmt := fun n hn w => mt_wr n g w hn
    obtain ⟨xg, xv⟩ := (away_wr hw).1 hax
    clear hw hf hc hax hx
    go_enter Tryz.func71, Tryz.ntmps71
    go_wp2_with fail
    refine wp_any_post2 (fun a' w' => ∃ w1, PKeeps g v w.drew w1 ∧ (∃ v' l' f', PS.next (.wr l f) q z = .wr l' f' ∧ IsWr w1 g v' l' f' ∧ (∀ k, v'.ownBlock = some k → v.ownBlock = some k ∨ w.drew.heap.size ≤ k)) ∧ w' = w1.setCell ⟨gx, off, none⟩ (.int .u64 z) ∧ a'.defers = []) (fun Q hQ => ?_) ?_
    · go_region_with (go_at_call 142; refine (wnum_is (w := w.drew) HW.out q z hq (by omega) (by omega) HF.out).mono ?_; rintro e w1 ⟨rfl, b1, HV⟩; have r2 := (b1.block gx hgl xg xv).trans HX.out; have c2 := ((cell_of_row r2 off).trans ((cell_of_row HX.out off).symm.trans c1)); have f2 := frozen_of_row w1 gx off _ _ r2; have HV' := Lib.hid (And.intro b1 HV); clear HV b1 r2)
      all_goals exact NoPanic.normal (hQ _ _ ⟨_, HV'.out.1, HV'.out.2, rfl, rfl⟩)
    · rintro a' w' ⟨w1, b1, HV, rfl, hd⟩
      have r2 := (b1.block gx hgl xg xv).trans HX.out
      refine bodyPost_end (results_none rfl _ _ _) hd ?_
      exact ⟨rfl, row_stored r2, passed_wr HW.out hgl HAX.out ⟨b1.os, b1.tape, b1.output, b1.size, b1.block⟩ HV⟩
  | rd b =>
    obtain ⟨g, a, cap, rfl, hw⟩ := h
    have HW := Lib.hid hw
    have hna := fun n hn w => na_rd n g w hn
    have hmt := fun n hn w => mt_rd n g w hn
    obtain ⟨xg, xv⟩ := (away_rd hw).1 hax
    have hlt : PS.num (.rd b) q z < 18446744073709551616 := Nat.lt_of_lt_of_le (num_lt hw.2.1.2.1 q z (by omega)) (Nat.le_trans (Nat.pow_le_pow_right (by omega) hq8) (by decide))
    obtain ⟨r, hr⟩ : ∃ r, PS.num (.rd b) q z = r := ⟨_, rfl⟩
    rw [hr] at hlt
    have HR := Lib.hid hr
    have hkr := u64_small hlt
    clear hw hc hax hx hf hr
    rw [HR.out]
    go_enter Tryz.func71, Tryz.ntmps71
    go_wp2_with fail
    refine wp_any_post2 (fun a' w' => ∃ w1, PKeeps g (.slice none 0 0) w.drew w1 ∧ (∃ a' cap' b', PS.next (.rd b) q z = .rd b' ∧ IsRd w1 g a' cap' b' ∧ (b' ≠ [] → ∀ x, a' = some x → ∃ y, a = some y ∧ y.block = x.block ∧ b ≠ [])) ∧ w' = w1.setCell ⟨gx, off, none⟩ (.int .u64 r) ∧ a'.defers = []) (fun Q hQ => ?_) ?_
    · go_region_with (go_at_call 144; refine (rnum_is (w := w.drew) HW.out q z hq (by omega) (by omega)).mono ?_; rintro e w1 ⟨rfl, b1, HV⟩; rw [HR.out]; have r2 := (b1.block gx hgl xg (by intro e; cases e)).trans HX.out; have c2 := ((cell_of_row r2 off).trans ((cell_of_row HX.out off).symm.trans c1)); have f2 := frozen_of_row w1 gx off _ _ r2; have HV' := Lib.hid (And.intro b1 HV); clear HV b1 r2)
      all_goals exact NoPanic.normal (hQ _ _ ⟨_, HV'.out.1, HV'.out.2, rfl, rfl⟩)
    · rintro a' w' ⟨w1, b1, HV, rfl, hd⟩
      have r2 := (b1.block gx hgl xg (by intro e; cases e)).trans HX.out
      refine bodyPost_end (results_none rfl _ _ _) hd ?_
      exact ⟨rfl, row_stored r2, passed_rd HW.out hgl HAX.out ⟨b1.os, b1.tape, b1.output, b1.size, b1.block⟩ HV⟩
end Go.Proofs.YtgakidimipipeaaGreat

namespace Go.Proofs.YtgakidimipipeaaGreat
open Go.RowKit
set_option linter.unusedVariables false
set_option maxRecDepth 100000

/-- The slice's elements are these values. -/
def ReadsV (w : World) (a : Option Addr) (len : Nat) (l : List Value) : Prop :=
  l.length = len ∧ (l = [] ∨ ∃ b off, a = some ⟨b, off, none⟩ ∧ b < w.heap.size ∧ ∀ i u, l[i]? = some u → w.cell? ⟨b, off + i, none⟩ = some u)
theorem ReadsV.nil (w : World) (a : Option Addr) : ReadsV w a 0 [] := ⟨rfl, .inl rfl⟩
theorem ReadsV.below {w w' : World} {a : Option Addr} {len : Nat} {l : List Value} (h : ReadsV w a len l) (b : Below w.heap.size w w') : ReadsV w' a len l := by
  obtain ⟨h1, rfl | ⟨g, off, rfl, hg, hc⟩⟩ := h
  · exact ⟨h1, .inl rfl⟩
  · exact ⟨h1, .inr ⟨g, off, rfl, Nat.lt_of_lt_of_le hg b.size, fun i u hi => (b.cell (p := ⟨g, off + i, none⟩) hg).trans (hc i u hi)⟩⟩
theorem ReadsV.alloc {w : World} {a : Option Addr} {len : Nat} {l : List Value} (h : ReadsV w a len l) (o : Obj) : ReadsV (w.alloc o) a len l := h.below ((Below.refl _ _).alloc (Nat.le_refl _) o)
/-- The first k. -/
theorem ReadsV.take {w : World} {a : Option Addr} {len : Nat} {l : List Value} (h : ReadsV w a len l) {k : Nat} (hk : k ≤ len) : ReadsV w a k (l.take k) := by
  obtain ⟨h1, h2⟩ := h
  refine ⟨by rw [List.length_take]; omega, ?_⟩
  rcases h2 with rfl | ⟨g, off, rfl, hg, hc⟩
  · left; simp
  · refine .inr ⟨g, off, rfl, hg, fun i u hi => ?_⟩
    rw [List.getElem?_take] at hi
    split at hi
    · exact hc i u hi
    · cases hi
/-- A cell of it. -/
theorem ReadsV.at {w : World} {a : Option Addr} {len : Nat} {l : List Value} (h : ReadsV w a len l) {i : Nat} {u : Value} (hi : l[i]? = some u) : ∃ g off, a = some ⟨g, off, none⟩ ∧ g < w.heap.size ∧ w.cell? ⟨g, off + i, none⟩ = some u := by
  obtain ⟨h1, rfl | ⟨g, off, rfl, hg, hc⟩⟩ := h
  · simp at hi
  · exact ⟨g, off, rfl, hg, hc i u hi⟩

def OneCells (l : List Value) : Prop := ∀ u ∈ l, u.oneCell' = true
theorem OneCells.append {l m : List Value} (h : OneCells l) (k : OneCells m) : OneCells (l ++ m) := fun u hu => by
  rcases List.mem_append.1 hu with hu | hu
  · exact h u hu
  · exact k u hu
/-- A row of values that is the call's own: it begins at block B or behind it. -/
def OwnsV (B : Nat) (w : World) (e : TypeId) (v : Value) (l : List Value) : Prop := w.ownsRow B e 1 v l.length l
theorem OwnsV.nil (B : Nat) (w : World) (e : TypeId) : OwnsV B w e (.slice none 0 0) [] := World.ownsRow_nil w B e 1
theorem OwnsV.alloc {B : Nat} {w : World} {e : TypeId} {v : Value} {l : List Value} (h : OwnsV B w e v l) (o : Obj) : OwnsV B (w.alloc o) e v l := World.ownsRow.alloc h o
theorem OwnsV.kept {B : Nat} {w w' : World} {e : TypeId} {v : Value} {l : List Value} (h : OwnsV B w e v l) {row : Option Nat} (hg : w.grownBy w' row) (hne : v.ownBlock = none ∨ v.ownBlock ≠ row) : OwnsV B w' e v l := World.ownsRow.kept h hg hne
theorem OwnsV.lt {B : Nat} {w : World} {e : TypeId} {v : Value} {l : List Value} (h : OwnsV B w e v l) : ∀ k, v.ownBlock = some k → B ≤ k ∧ k < w.heap.size := World.ownsRow.lt h
theorem OwnsV.below {B : Nat} {w w' : World} {e : TypeId} {v : Value} {l : List Value} (h : OwnsV B w e v l) (b : Below w.heap.size w w') : OwnsV B w' e v l := by
  obtain ⟨h1, ⟨rfl, h2⟩ | ⟨g, cap, cur, rfl, hb, hg, hc, hm, hsz, ht⟩⟩ := h
  · exact ⟨h1, .inl ⟨rfl, h2⟩⟩
  · exact ⟨h1, .inr ⟨g, cap, cur, rfl, hb, (b.block g (Array.getElem?_eq_some_iff.1 hg).1).trans hg, hc, hm, hsz, ht⟩⟩
theorem OwnsV.less {B B' : Nat} {w : World} {e : TypeId} {v : Value} {l : List Value} (h : OwnsV B w e v l) (hB : B' ≤ B) : OwnsV B' w e v l := by
  obtain ⟨h1, ⟨rfl, h2⟩ | ⟨g, cap, cur, rfl, hb, hg, hc, hm, hsz, ht⟩⟩ := h
  · exact ⟨h1, .inl ⟨rfl, h2⟩⟩
  · exact ⟨h1, .inr ⟨g, cap, cur, rfl, Nat.le_trans hB hb, hg, hc, hm, hsz, ht⟩⟩
/-- What is owned reads as what it is. -/
theorem OwnsV.reads {B : Nat} {w : World} {e : TypeId} {v : Value} {l : List Value} (h : OwnsV B w e v l) : ∃ a cap, v = .slice a l.length cap ∧ ReadsV w a l.length l ∧ l.length ≤ cap ∧ cap ≤ maxLen := by
  obtain ⟨h1, ⟨rfl, h2⟩ | ⟨g, cap, cur, rfl, hb, hg, hc, hm, hsz, ht⟩⟩ := h
  · exact ⟨none, 0, by rw [h2], ⟨rfl, .inl (List.length_eq_zero_iff.1 h2)⟩, by omega, by omega⟩
  · refine ⟨_, cap, rfl, ⟨rfl, .inr ⟨g, 0, rfl, (Array.getElem?_eq_some_iff.1 hg).1, fun i u hi => ?_⟩⟩, hc, hm⟩
    have hlt := (List.getElem?_eq_some_iff.1 hi).1
    rw [← ht, List.getElem?_take, if_pos (by omega)] at hi
    rw [Nat.zero_add]
    unfold World.cell?
    rw [hg]
    simpa using hi
/-- The head, for loads and stores by hand. -/
theorem OwnsV.head {B : Nat} {w : World} {e : TypeId} {v : Value} {l : List Value} (h : OwnsV B w e v l) : (v = .slice none 0 0 ∧ l = []) ∨ ∃ g cap, v = .slice (some ⟨g, 0, none⟩) l.length cap ∧ B ≤ g ∧ g < w.heap.size ∧ l.length ≤ cap ∧ cap ≤ maxLen ∧ ∀ i u, l[i]? = some u → w.cell? ⟨g, i, none⟩ = some u := by
  rcases h.2 with ⟨rfl, h2⟩ | ⟨g, cap, cur, rfl, hb, hg, hc, hm, hsz, ht⟩
  · exact .inl ⟨rfl, List.length_eq_zero_iff.1 h2⟩
  · refine .inr ⟨g, cap, rfl, hb, (Array.getElem?_eq_some_iff.1 hg).1, hc, hm, fun i u hi => ?_⟩
    have hlt := (List.getElem?_eq_some_iff.1 hi).1
    rw [← ht, List.getElem?_take, if_pos (by omega)] at hi
    unfold World.cell?
    rw [hg]
    simpa using hi
theorem OwnsV.stored {B : Nat} {w : World} {e : TypeId} {g n cap : Nat} {l : List Value} (h : OwnsV B w e (.slice (some ⟨g, 0, none⟩) n cap) l) (hn : l.length = n) (j : Nat) (u : Value) :
    OwnsV B (w.setCell ⟨g, j, none⟩ u) e (.slice (some ⟨g, 0, none⟩) n cap) (l.set j u) ∧ w.grownBy (w.setCell ⟨g, j, none⟩ u) (some g) := by
  subst hn
  have hs := World.ownsRow.stored h j u
  refine ⟨?_, hs.2⟩
  unfold OwnsV
  rw [List.length_set]
  exact hs.1
theorem OwnsV.frozen {B : Nat} {w : World} {e : TypeId} {g n cap : Nat} {l : List Value} (h : OwnsV B w e (.slice (some ⟨g, 0, none⟩) n cap) l) (hn : l.length = n) (j : Nat) : w.frozen? ⟨g, j, none⟩ = false := by subst hn; exact World.ownsRow.frozenAt h j
/-- A literal. -/
theorem OwnsV.new {B : Nat} {w : World} {e : TypeId} (cs : Array Value) (hB : B ≤ w.heap.size) (hm : cs.size ≤ maxLen) : OwnsV B (w.alloc (.cells cs e)) e (.slice (some ⟨w.heap.size, 0, none⟩) cs.size cs.size) cs.toList := by
  have h := World.ownsRow_lit (base := B) (e := e) (size := 1) w cs cs.size hB hm (by omega)
  unfold OwnsV
  rw [Array.length_toList]
  exact h
theorem ReadsV.lit (w : World) (cs : Array Value) (e : TypeId) : ReadsV (w.alloc (.cells cs e)) (some ⟨w.heap.size, 0, none⟩) cs.size cs.toList := by
  refine ⟨Array.length_toList, .inr ⟨w.heap.size, 0, rfl, by simp, fun i u hi => ?_⟩⟩
  rw [Nat.zero_add]
  unfold World.cell?
  rw [heap_alloc_new]
  simpa using hi

theorem run_append_nothingV {P : Program} {w : World} (base : Nat) (t ty e : TypeId) (i : TypeInfo) (size : Nat) (ht : P.underlying t = some (.slice e)) (hi : P.info? e = some i)
    (v : Value) (n : Nat) (xs : List Value) (hown : w.ownsRow base e size v n xs) (sa : Option Addr) (c : Nat) :
    (Builtin.append_ #[t, t] ty #[v, .slice none 0 c]).run P w = .ok v w := by
  rcases hown.2 with ⟨rfl, rfl⟩ | ⟨g, cap, cur, rfl, _, _, hnc, _⟩
  · simp [Builtin.append_, run_underlying ht, sizeOf, typeInfo, hi, Builtin.lenOf, Builtin.firstCells]
  · simp [Builtin.append_, run_underlying ht, sizeOf, typeInfo, hi, Builtin.lenOf, Builtin.firstCells, hnc, storeCells]

/-- 'append(own, values...)', whatever slice the values lie in. -/
theorem wp_append_vals {P : Program} {w : World} {o : Oper} {a : Act} {K : Act → World → Prop} {Q : Exit → Act → World → Prop} (s x : Operand) (t : TypeId)
    (ho : o.op = .call { callee := .builtin .append, args := #[s, x], argTypes := #[t, t] })
    (B : Nat) (e : TypeId) (z : Value) (bytes : Nat) (ht : P.underlying t = some (.slice e)) (hinfo : (P.info? e).map (fun i => (i.zero, i.size, i.bytes)) = some (some z, 1, bytes)) (hzs : z.cells.size = 1)
    (v : Value) (l : List Value) (hs : a.eval s = v) (hown : OwnsV B w e v l) (sa : Option Addr) (m c : Nat) (hx : a.eval x = .slice sa m c) (news : List Value) (hr : ReadsV w sa m news) (hone : OneCells news)
    (hb : (l.length + m) * bytes ≤ 140737488355328) (hb2 : l.length + m ≤ maxLen) (hB : B ≤ w.heap.size)
    (h : ∀ v' w', OwnsV B w' e v' (l ++ news) → w.grownBy w' v.ownBlock → K (a.put o.dst v') w') : o.wp P a w K Q := by
  obtain ⟨hlen, hr⟩ := hr
  obtain ⟨i0, hi, hz0, hz1, hz2⟩ := info_parts hinfo
  have close : ∀ v' w', w'.ownsRow B e 1 v' (l.length + m) (l ++ news) → OwnsV B w' e v' (l ++ news) := fun v' w' h' => by
    unfold OwnsV; rw [List.length_append, hlen]; exact h'
  cases sa with
  | none =>
    have hn : news = [] := by
      rcases hr with rfl | ⟨b, off, he, _⟩
      · rfl
      · cases he
    subst hn
    obtain rfl : m = 0 := by simpa using hlen.symm
    have hrun := run_append_nothingV (P := P) (w := w) B t o.type e i0 1 ht hi v _ _ hown none c
    unfold Oper.wp
    simp [execOp, ho, resolve, invoke, builtin, hs, hx, hrun, Result.andThen]
    exact h _ _ (close _ _ (by have hh := hown; unfold OwnsV at hh; simpa using hh)) ⟨rfl, rfl, rfl, Nat.le_refl _, fun _ _ _ => rfl⟩
  | some ad =>
    refine wp_append_own w s x t ho B e i0 z 1 bytes ht hi hz0 hz1 hz2 hzs (by decide) v l.length l hs hown ad m c news hx (by rw [hlen, Nat.mul_one])
      ?_ hone hb2 hb hB (fun v' w' h1 h2 _ => h v' w' (close _ _ h1) h2)
    intro j u hu
    rcases hr with rfl | ⟨b, off, he, _, hc⟩
    · simp at hu
    · cases he
      have hadd : (⟨b, off, none⟩ : Addr).add j = ⟨b, off + j, none⟩ := by unfold Addr.add; split <;> simp_all
      rw [hadd]
      exact hc j u hu
theorem wpList_append_vals {P : Program} {w : World} {ops : Array Oper} {rest : List Oper} {o : Oper} {a : Act} {Q : Exit → Act → World → Prop} (hgd : o.guard = none) (s x : Operand) (t : TypeId)
    (ho : o.op = .call { callee := .builtin .append, args := #[s, x], argTypes := #[t, t] })
    (B : Nat) (e : TypeId) (z : Value) (bytes : Nat) (ht : P.underlying t = some (.slice e)) (hinfo : (P.info? e).map (fun i => (i.zero, i.size, i.bytes)) = some (some z, 1, bytes)) (hzs : z.cells.size = 1)
    (v : Value) (l : List Value) (hs : a.eval s = v) (hown : OwnsV B w e v l) (sa : Option Addr) (m c : Nat) (hx : a.eval x = .slice sa m c) (news : List Value) (hr : ReadsV w sa m news) (hone : OneCells news)
    (hb : (l.length + m) * bytes ≤ 140737488355328) (hb2 : l.length + m ≤ maxLen) (hB : B ≤ w.heap.size)
    (h : ∀ v' w', OwnsV B w' e v' (l ++ news) → w.grownBy w' v.ownBlock → wpList P ops Q rest (a.put o.dst v') w') : wpList P ops Q (o :: rest) a w :=
  wpList_plain hgd fun _ hK => wp_append_vals s x t ho B e z bytes ht hinfo hzs v l hs hown sa m c hx news hr hone hb hb2 hB fun v' w' h1 h2 => hK _ _ (h v' w' h1 h2)
/-- The same, under a guard that lets it. -/
theorem wpList_append_vals_want {P : Program} {w : World} {ops : Array Oper} {rest : List Oper} {o : Oper} {a : Act} {Q : Exit → Act → World → Prop} (hgd : Region.wanted o (yielded ops a.tmps) = true) (s x : Operand) (t : TypeId)
    (ho : o.op = .call { callee := .builtin .append, args := #[s, x], argTypes := #[t, t] })
    (B : Nat) (e : TypeId) (z : Value) (bytes : Nat) (ht : P.underlying t = some (.slice e)) (hinfo : (P.info? e).map (fun i => (i.zero, i.size, i.bytes)) = some (some z, 1, bytes)) (hzs : z.cells.size = 1)
    (v : Value) (l : List Value) (hs : a.eval s = v) (hown : OwnsV B w e v l) (sa : Option Addr) (m c : Nat) (hx : a.eval x = .slice sa m c) (news : List Value) (hr : ReadsV w sa m news) (hone : OneCells news)
    (hb : (l.length + m) * bytes ≤ 140737488355328) (hb2 : l.length + m ≤ maxLen) (hB : B ≤ w.heap.size)
    (h : ∀ v' w', OwnsV B w' e v' (l ++ news) → w.grownBy w' v.ownBlock → wpList P ops Q rest (a.put o.dst v') w') : wpList P ops Q (o :: rest) a w :=
  BigFrame.wpList_want hgd fun _ hK => wp_append_vals s x t ho B e z bytes ht hinfo hzs v l hs hown sa m c hx news hr hone hb hb2 hB fun v' w' h1 h2 => hK _ _ (h v' w' h1 h2)
/-- What else there was, behind such an append. -/
theorem OwnsV.grown {B : Nat} {w w' W : World} {e : TypeId} {v : Value} {l : List Value} (h : OwnsV B w e v l) (hB : Below B W w) (hW : B ≤ w.heap.size) (hg : w.grownBy w' v.ownBlock) : Below B W w' :=
  hB.grown hg hW fun k hk => (h.lt k hk).1
end Go.Proofs.YtgakidimipipeaaGreat
