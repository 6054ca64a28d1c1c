/- Pointers, read back from a sector: the program's. -/
import Derived.Test.YtedhfgadphjobaaPtr2
namespace Go.Proofs.Ytedhfgadphjobaa
open Go.RowKit Go.Sort
set_option linter.unusedVariables false
set_option linter.unusedSimpArgs false
set_option maxRecDepth 100000

noncomputable def readP (s : List Nat) : List FldD × Int := if inP (rdP s) then (rdP s, 0) else (zeroP, 21)
theorem writeP_length (l : List FldD) (h : IsPtr l) : (writeP l).1.length = 128 := by
  unfold writeP
  split
  · show (wrB l).length = 128
    rw [wrB_length, ptr_widths h]
  · rfl
theorem results_ptr {fn : Func} {p u : Tmp} (h : fn.results = #[.cell p 100, .tmp u]) (tmps : Array Value) (w : World) (g : Nat) (l : List FldD) (t : TypeId) (fr : Nat × Nat) (hp : tmps.getD p undef = .pointer (some ⟨g, 0, none⟩))
    (hg : w.heap[g]? = some (.cells (cellsF l) t fr)) (hl : l.length = 32) : (results fn tmps).run Try.prog w = .ok (.tuple #[.agg (cellsF l), tmps.getD u undef]) w := by
  obtain ⟨d, hd1, hd2⟩ := row_ptr
  rw [results_cell_tmp h, hp]
  simp only [asAddr, Sem.run_pure, Result.andThen_ok]
  rw [run_loadVar_row w g t 100 (cellsF l) fr d hg hd1 (by cases d <;> first | rfl | exact hd2) (by rw [size_ptr, cellsF_size, hl])]
  rfl
theorem build_ptr (w : World) : (Instr.build 100 #[]).run Try.prog w = .ok (.agg (cellsF zeroP)) w := by kernel_rfl

/-- Numbers of four bytes, read one behind the other. -/
theorem stO_four : ∀ (l : List FldD) (b : List Nat), (∀ x ∈ l, x.kind = .i64 ∧ x.width = 4) → 4 * l.length ≤ b.length → ∀ m, m < l.length → (stO (.rd b) l)[m]? = some ⟨.i64, 4, ((le ((b.drop (4 * m)).take 4) : Nat) : Int)⟩
  | [], _, _, _, m, h => by simp at h
  | x :: l, b, hx, hb, m, h => by
    obtain ⟨k1, k2⟩ := hx x (List.mem_cons_self ..)
    obtain ⟨kd, wd, z⟩ := x
    dsimp only at k1 k2
    subst k1 k2
    simp only [List.length_cons] at hb h
    have hn : PS.next (.rd b) 4 (u64of z) = .rd (b.drop 4) := if_pos (by omega)
    match m with
    | 0 =>
      show some (⟨.i64, 4, ((PS.num (.rd b) 4 0 : Nat) : Int)⟩ : FldD) = _
      rw [show PS.num (.rd b) 4 0 = le (b.take 4) from if_pos (by omega)]
      simp
    | m + 1 =>
      show (stO (PS.next (.rd b) 4 (u64of z)) l)[m]? = _
      rw [hn, stO_four l (b.drop 4) (fun y hy => hx y (List.mem_cons_of_mem _ hy)) (by simp; omega) m (by omega)]
      rw [List.drop_drop, show 4 + 4 * m = 4 * (m + 1) by omega]
theorem rdP_at {b : List Nat} (hb : b.length = 128) {m : Nat} (hm : m < 32) : (rdP b)[m]? = some ⟨.i64, 4, ((le ((b.drop (4 * m)).take 4) : Nat) : Int)⟩ :=
  stO_four zeroP b (by decide) (by show 4 * 32 ≤ b.length; omega) m hm
theorem flat_four {f : FldD → List Nat} : ∀ (l : List FldD), (∀ x ∈ l, (f x).length = 4) → ∀ m x, l[m]? = some x → ((l.flatMap f).drop (4 * m)).take 4 = f x
  | [], _, m, x, h => by simp at h
  | y :: l, hf, 0, x, h => by
    simp only [List.getElem?_cons_zero, Option.some.injEq] at h
    subst h
    rw [List.flatMap_cons, Nat.mul_zero, List.drop_zero, List.take_append_of_le_length (by rw [hf y (List.mem_cons_self ..)]; exact Nat.le_refl _), List.take_of_length_le (by rw [hf y (List.mem_cons_self ..)]; exact Nat.le_refl _)]
  | y :: l, hf, m + 1, x, h => by
    have h4 := hf y (List.mem_cons_self ..)
    rw [List.flatMap_cons, List.drop_append, List.drop_of_length_le (by omega), h4, List.nil_append, show 4 * (m + 1) - 4 = 4 * m by omega]
    exact flat_four l (fun z hz => hf z (List.mem_cons_of_mem _ hz)) m x (by simpa using h)
/-- What was written is read as it was. -/
theorem rdP_wrB {l : List FldD} (h : IsPtr l) (hp : inP l) : rdP (wrB l) = l := by
  have hw : (wrB l).length = 128 := by rw [wrB_length, ptr_widths h]
  have hw4 : ∀ x ∈ l, x.width = 4 := by
    intro x hx
    obtain ⟨m, hm⟩ := List.getElem?_of_mem hx
    have hm32 : m < 32 := by have := (List.getElem?_eq_some_iff.1 hm).1; rw [h.1] at this; exact this
    obtain ⟨z, hz, _⟩ := h.2 m hm32
    rw [hm] at hz
    cases hz
    rfl
  apply List.ext_getElem?
  intro m
  by_cases hm : m < 32
  · obtain ⟨z, hz, _⟩ := h.2 m hm
    have hk := hp m hm
    unfold fieldZ at hk
    rw [hz] at hk
    have hk' : 0 ≤ z ∧ z ≤ 65535 := hk
    have hu : u64of z < 256 ^ 4 := by unfold u64of; omega
    rw [rdP_at hw hm, (ptr_room h hp).2, flat_four l (fun x hx => by rw [low_length, hw4 x hx]) m _ hz, hz]
    dsimp only
    rw [le_low _ _ hu]
    have : ((u64of z : Nat) : Int) = z := by unfold u64of; omega
    rw [this]
  · have h1 : (rdP (wrB l)).length = 32 := by unfold rdP; rw [stO_length]; rfl
    rw [List.getElem?_eq_none (by omega), List.getElem?_eq_none (by rw [h.1]; omega)]
theorem readP_writeP {l : List FldD} (h : IsPtr l) (hp : inP l) : readP (writeP l).1 = (l, 0) := by
  have e : (writeP l).1 = wrB l := by unfold writeP; rw [if_pos hp]
  unfold readP
  rw [e, rdP_wrB h hp, if_pos hp]

set_option maxHeartbeats 1600000 in
theorem readPtr_is (s : List Nat) (hs : s.length = 128) (hbs : Bytes s) (w : World) :
    Calls Try.prog 53 #[.agg (cells s)] w fun e w' => e = .returned (.tuple #[.agg (cellsF (readP s).1), .int .i64 (readP s).2]) ∧ Below w.heap.size w w' := by
  have hz := zero_sector
  have hzi := zero_ptr
  have hbld := build_ptr
  obtain ⟨d, hd1, hd2⟩ := row_ptr
  have hsz : ∀ l : List FldD, l.length = 32 → (Try.prog.info? 100).map (·.size) = some (rowV l).length := fun l hl => by unfold rowV; rw [List.length_map, hl]; exact size_ptr
  have hsz2 : ∀ l : List FldD, l.length = 32 → (Try.prog.info? 100).map (·.size) = some (cellsF l).size := fun l hl => by rw [cellsF_size, hl]; exact size_ptr
  have b1 := below_box w (.cells (cells s) 46)
  have n1 := heap_alloc_new w (.cells (cells s) 46)
  obtain ⟨w1, hw1⟩ : ∃ w1, w.alloc (.cells (cells s) 46) = w1 := ⟨_, rfl⟩
  have hs1 : w1.heap.size = w.heap.size + 1 := by rw [← hw1]; simp
  rw [hw1] at b1 n1
  have b2 := below_box w1 (.cells (cellsF zeroP) 100)
  have n2 := heap_alloc_new w1 (.cells (cellsF zeroP) 100)
  have n1' := (b2.block w.heap.size (by omega)).trans n1
  have HB := Lib.hid (below_next b1 b2)
  rw [hs1] at n2
  obtain ⟨w2, hw2⟩ : ∃ w2, w1.alloc (.cells (cellsF zeroP) 100) = w2 := ⟨_, rfl⟩
  rw [hw2] at n2 n1' HB
  have hs2 : w2.heap.size = w.heap.size + 2 := by rw [← hw2]; simp [hs1]
  have hr : Reads w2 (some ⟨w.heap.size, 0, none⟩) s.length s := ⟨rfl, hbs, .inr ⟨w.heap.size, 0, rfl, by omega, fun i hi => block_cells hs n1' i (by omega)⟩⟩
  have hpr := pread_ptr (cap := 128) w2 hr (by omega) (by decide)
  rw [hs] at hpr
  have HPR := Lib.hid hpr
  clear b1 n1 b2 hr hpr
  go_enter Try.func53, Try.ntmps53
  go_wp2_with fail
  refine HPR.out.mono ?_
  rintro e w4 ⟨b4, rfl⟩
  have hIx := rdP_is hbs
  have HX : Hid (readP s = if inP (rdP s) then (rdP s, 0) else (zeroP, 21)) := rfl
  obtain ⟨x, hx⟩ : ∃ x, rdP s = x := ⟨_, rfl⟩
  rw [hx] at hIx HX ⊢
  have n2' := (b4.block (w.heap.size + 1) (by omega)).trans n2
  have HB4 : Hid (Below w.heap.size w w4) := HB.out.trans (b4.mono HB.out.size)
  have hs4 : w.heap.size + 2 ≤ w4.heap.size := by have := b4.size; omega
  have nz := heap_alloc_new w4 (.cells (cellsF zeroP) 100)
  have b5 := below_box w4 (.cells (cellsF x) 100)
  have nx := heap_alloc_new w4 (.cells (cellsF x) 100)
  have e5 := World.setRow_alloc_new w4 (cellsF zeroP) (cellsF x) 100
  obtain ⟨w5, hw5⟩ : ∃ w5, w4.alloc (.cells (cellsF x) 100) = w5 := ⟨_, rfl⟩
  rw [hw5] at b5 nx e5
  have n25 := (b5.block (w.heap.size + 1) (by omega)).trans n2'
  have HB5 : Hid (Below w.heap.size w w5) := HB4.out.trans (b5.mono HB4.out.size)
  have hs5 : w5.heap.size = w4.heap.size + 1 := by rw [← hw5]; simp
  have hrx := rowV_range nx
  have hsx := hsz x hIx.1
  have hsx2 := hsz2 x hIx.1
  have hold : (cellsF zeroP).size = (cellsF x).size := by rw [cellsF_size, cellsF_size, hIx.1]; rfl
  have honex := cellsF_one x
  obtain ⟨m, hm⟩ : ∃ m, w4.heap.size = m := ⟨_, rfl⟩
  rw [hm] at nx hrx hs5 nz hs4 e5
  clear b4 HB4 b5 hx hbs hw5 n2 n2' n1' HB hw1 hw2 hs1 hs2 HPR
  go_wp2_with (first
    | (refine wpList_store_row rfl 100 _ _ rfl m (cellsF x) (by go_simp) (by go_simp) _ _ nz hsx2 hold honex ?_; rw [e5])
    | refine wpList_load_mid rfl 100 _ rfl m 0 (by go_simp) (rowV x) d hrx hd1 hd2 hsx ?_)
  refine (writePtr_is hIx w5).mono ?_
  rintro e w6 ⟨rfl, b6⟩
  have hmk := writeP_length x hIx
  have hwr : writeP x = if inP x then (wrB x, 0) else (noughts, 1) := rfl
  have HX2 : Hid ((writeP x).2 = if inP x then 0 else 1) := by rw [hwr]; split <;> rfl
  obtain ⟨mk, hmke⟩ : ∃ mk, (writeP x).1 = mk := ⟨_, rfl⟩
  obtain ⟨er2, here⟩ : ∃ er2, (writeP x).2 = er2 := ⟨_, rfl⟩
  rw [here] at HX2
  rw [hmke, here]
  rw [hmke] at hmk
  have n26 := (b6.block (w.heap.size + 1) (by omega)).trans n25
  have nx6 := (b6.block m (by omega)).trans nx
  have HB6 : Hid (Below w.heap.size w w6) := HB5.out.trans (b6.mono HB5.out.size)
  have hs6 : m + 1 ≤ w6.heap.size := by have := b6.size; omega
  have nn := heap_alloc_new w6 (.cells (cells noughts) 46)
  have b7 := below_box w6 (.cells (cells mk) 46)
  have e7 := World.setRow_alloc_new w6 (cells noughts) (cells mk) 46
  obtain ⟨w7, hw7⟩ : ∃ w7, w6.alloc (.cells (cells mk) 46) = w7 := ⟨_, rfl⟩
  rw [hw7] at b7 e7
  have hs7 : w7.heap.size = w6.heap.size + 1 := by rw [← hw7]; simp
  have n27 := (b7.block (w.heap.size + 1) (by omega)).trans n26
  have nx7 := (b7.block m (by omega)).trans nx6
  have HB7 : Hid (Below w.heap.size w w7) := HB6.out.trans (b7.mono HB6.out.size)
  obtain ⟨m2, hm2⟩ : ∃ m2, w6.heap.size = m2 := ⟨_, rfl⟩
  rw [hm2] at e7 nn hs7 hs6
  have hrx7 := rowV_range nx7
  clear n25 nx HB5 b6 n26 nx6 HB6 b7 hw7 hmke here hrx hold e5 nz hm hwr
  by_cases hin : inP x
  · have hfin : readP s = (x, 0) := HX.out.trans (if_pos hin)
    have HF := Lib.hid hfin
    obtain rfl : er2 = 0 := HX2.out.trans (if_pos hin)
    have hd8 := setRow_heap _ (w.heap.size + 1) _ (cellsF x) _ _ n27
    have hb8 := below_setRow (g := w.heap.size + 1) HB7.out (by omega) (cellsF x)
    have hold2 : (cellsF zeroP).size = (cellsF x).size := by rw [cellsF_size, cellsF_size, hIx.1]; rfl
    clear hfin hin
    go_wp2_with (first
      | (refine wpList_store_sector rfl _ _ rfl m2 mk rfl rfl hmk _ _ nn rfl ?_; rw [e7])
      | refine wpList_load_mid rfl 100 _ rfl m 0 rfl (rowV x) d hrx7 hd1 hd2 hsx ?_
      | refine wpList_store_row rfl 100 _ _ rfl (w.heap.size + 1) (cellsF x) rfl rfl _ _ n27 hsx2 hold2 honex ?_)
    refine bodyPost_ret (results_ptr rfl _ _ (w.heap.size + 1) x _ _ rfl hd8 hIx.1) rfl ?_
    exact ⟨by rw [HF.out]; rfl, hb8⟩
  · have hfin : readP s = (zeroP, 21) := HX.out.trans (if_neg hin)
    have HF := Lib.hid hfin
    obtain rfl : er2 = 1 := HX2.out.trans (if_neg hin)
    have hs82 := hsz2 zeroP rfl
    have hone8 := cellsF_one zeroP
    have hd8 := setRow_heap _ (w.heap.size + 1) _ (cellsF zeroP) _ _ n27
    have hb8 := below_setRow (g := w.heap.size + 1) HB7.out (by omega) (cellsF zeroP)
    clear hfin hin
    go_wp2_with (first
      | (refine wpList_store_sector rfl _ _ rfl m2 mk rfl rfl hmk _ _ nn rfl ?_; rw [e7])
      | refine wpList_store_row rfl 100 _ _ rfl (w.heap.size + 1) (cellsF zeroP) rfl rfl _ _ n27 hs82 rfl hone8 ?_)
    refine bodyPost_ret (results_ptr rfl _ _ (w.heap.size + 1) zeroP _ _ rfl hd8 rfl) rfl ?_
    exact ⟨by rw [HF.out]; rfl, hb8⟩
end Go.Proofs.Ytedhfgadphjobaa
