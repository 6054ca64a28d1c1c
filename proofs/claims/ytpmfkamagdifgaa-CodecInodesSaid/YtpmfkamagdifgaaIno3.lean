/- Inodes: the document's ReadInode. -/
import Derived.Test.YtpmfkamagdifgaaIno2
import Derived.Test.YtpmfkamagdifgaaSIs
import Derived.Deep.RegionHeld3
namespace Go.Proofs.Ytpmfkamagdifgaa
open Go.ChangeShapes Go.WideShapes Go.RowKit Go.Deep Go.Sort
set_option linter.unusedVariables false
set_option linter.unusedSimpArgs false
set_option maxRecDepth 100000

theorem zeroI_widths : widths zeroI = 55 := rfl
theorem zeroI_cons : ∃ x l, zeroI = x :: l ∧ 1 ≤ x.width := ⟨_, _, rfl, by decide⟩
theorem zeroI_w8 : ∀ x ∈ zeroI, x.width ≤ 8 := fun x hx => by have := zeroI_width x hx; omega
theorem readI_cond {s : List Nat} (hb : Bytes s) (h1 : (writeI (rdI (bO s))).2 = 0) (h2 : (writeI (rdI (bO s))).1 = s) : openedOk 2 zeroI s = true ∧ (bodyL s).length = 55 := by
  have hx := rdI_is (bO_bytes hb)
  obtain ⟨x, hxe⟩ : ∃ x, rdI (bO s) = x := ⟨_, rfl⟩
  rw [hxe] at h1 h2 hx
  by_cases hn : mayI x = false ∨ wrF x = true
  · have e : writeI x = (noughts, 1) := if_pos hn
    rw [e] at h1
    exact absurd h1 (by decide)
  · have e : writeI x = (sealL 2 (wrB x), 0) := if_neg hn
    rw [e] at h2
    have hw : (wrB x).length = 55 := by rw [wrB_length, inode_widths hx]
    have h2' : sealL 2 (wrB x) = s := h2
    have hbd := sealL_body 2 (wrB x) (by omega)
    have hop := openB_sealL (k := 2) (b := wrB x) (by decide) (by omega)
    have hkd := sealL_kind 2 (wrB x)
    rw [h2'] at hbd hop hkd
    refine ⟨?_, by rw [hbd, hw]⟩
    unfold openedOk
    rw [hop, hkd, hbd, hw]
    rfl
theorem readI_no {s : List Nat} (hb : Bytes s) (h : ¬ (openedOk 2 zeroI s = true ∧ (bodyL s).length = 55)) : readI s = (zeroI, 21) := if_neg fun ⟨h1, h2⟩ => h (readI_cond hb h1 h2)
theorem openedOk_facts {s : List Nat} (ho : openedOk 2 zeroI s = true) : bO s = bodyL s ∧ sealL 2 (bodyL s) = s ∧ ∃ c, c * 55 = (bodyL s).length := by
  unfold openedOk at ho
  simp only [Bool.and_eq_true, decide_eq_true_eq] at ho
  obtain ⟨⟨h1, h2⟩, h3⟩ := ho
  have hbo : bO s = bodyL s := if_pos h1
  rw [zeroI_widths] at h3
  obtain ⟨c, hc⟩ := Nat.dvd_of_mod_eq_zero h3
  unfold openB at h1
  obtain ⟨_, h5, h6⟩ := of_decide_eq_true h1
  rw [h2] at h6
  exact ⟨hbo, h6, c, by rw [hc, Nat.mul_comm]⟩
theorem items_one {b : List Nat} (hb : Bytes b) (hl : b.length = 55) : itemsR zeroI b = [rdI b] ∧ wrF (rdI b) = false ∧ wrB (rdI b) = b := by
  obtain ⟨i1, i2, i3⟩ := items_whole zeroI_cons zeroI_w8 hb 1 (by rw [zeroI_widths, hl])
  have e : itemsR zeroI b = [rdI b] := by unfold itemsR; rw [i1]; rfl
  rw [e] at i2 i3
  have ef : [rdI b].flatten = rdI b := by simp
  rw [ef] at i2 i3
  obtain ⟨w1, w2⟩ := wr_room i3
  exact ⟨e, w1, by rw [w2, i2]⟩
theorem readI_yes {s : List Nat} (hb : Bytes s) (ho : openedOk 2 zeroI s = true) (hl : (bodyL s).length = 55) : readI s = if mayI (rdI (bodyL s)) = true then (rdI (bodyL s), 0) else (zeroI, 21) := by
  obtain ⟨hbo, hse, _⟩ := openedOk_facts ho
  obtain ⟨_, w1, w2⟩ := items_one (bodyL_byt hb) hl
  unfold readI
  rw [hbo]
  by_cases hm : mayI (rdI (bodyL s)) = true
  · have e : writeI (rdI (bodyL s)) = (sealL 2 (wrB (rdI (bodyL s))), 0) := if_neg (by rw [hm, w1]; simp)
    rw [e, w2, if_pos ⟨rfl, hse⟩, if_pos hm]
  · rw [writeI_no (by simpa using hm), if_neg (by rintro ⟨h, _⟩; exact absurd h (by decide)), if_neg hm]
theorem opened_len {s : List Nat} (hb : Bytes s) (ho : openedOk 2 zeroI s = true) : ∃ c, c * 55 = (bodyL s).length ∧ (numsV (openedL 2 zeroI s)).length = c * 15 := by
  obtain ⟨_, _, c, hc⟩ := openedOk_facts ho
  refine ⟨c, hc, ?_⟩
  obtain ⟨i1, i2, i3⟩ := items_whole zeroI_cons zeroI_w8 (bodyL_byt hb) c (by rw [zeroI_widths]; exact hc)
  unfold openedL
  rw [if_pos ho, numsV_length, zsOf_length]
  have hit : ∀ x ∈ itemsR zeroI (bodyL s), x.length = 15 := by
    intro x hx
    obtain ⟨b', rfl, hb'⟩ := runD_mem _ _ _ x hx
    exact (rdI_is (hb' (bodyL_byt hb))).1
  have hil : (itemsR zeroI (bodyL s)).length = c := by unfold itemsR; rw [runD_length, i1]
  rw [← hil]
  generalize itemsR zeroI (bodyL s) = L at *
  clear hil i1 i2 i3 hc ho
  induction L with
  | nil => rfl
  | cons x L ih =>
    rw [List.flatten_cons, List.length_append, hit x (by simp), ih fun y hy => hit y (by simp [hy]), List.length_cons, Nat.succ_mul]
    omega
theorem row_get {x : List FldD} {m : Nat} {k : IntKind} {q : Nat} {z : Int} (e : x[m]? = some ⟨k, q, z⟩) : (rowV x)[m]? = some (.int k z) := by unfold rowV; rw [List.getElem?_map, e]; rfl
theorem num_get {x : List FldD} {m : Nat} {k : IntKind} {q : Nat} {z : Int} (e : x[m]? = some ⟨k, q, z⟩) : (numsV (zsOf x))[m]? = some (.int .i64 z) := numsV_get (by unfold zsOf; rw [List.getElem?_map, e]; rfl)
def FillI (x : List FldD) (k : Nat) (A : Array Value) : Prop := A.size = 15 ∧ ∀ m, m < 15 → A[m]? = if 5 + k ≤ m ∧ m < 13 then some (.int .i64 0) else (rowV x)[m]?
theorem FillI.next {x : List FldD} {k : Nat} {A : Array Value} {z : Int} (h : FillI x k A) (hk : k < 8) (e : (rowV x)[5 + k]? = some (.int .i64 z)) : FillI x (k + 1) (A.setIfInBounds (5 + k) (.int .i64 z)) := by
  refine ⟨by rw [Array.size_setIfInBounds]; exact h.1, fun m hm => ?_⟩
  by_cases hmk : m = 5 + k
  · subst hmk
    rw [if_neg (by omega), e, Array.getElem?_setIfInBounds_self_of_lt (by rw [h.1]; exact hm)]
  · rw [Array.getElem?_setIfInBounds_ne (by omega), h.2 m hm]
    by_cases hc : 5 + k ≤ m ∧ m < 13
    · rw [if_pos hc, if_pos (by omega)]
    · rw [if_neg hc, if_neg (by omega)]
theorem FillI.full {x : List FldD} {A : Array Value} (hx : x.length = 15) (h : FillI x 8 A) : A = cellsF x := by
  refine Array.ext_getElem? fun m => ?_
  rw [cellsF_row]
  by_cases hm : m < 15
  · rw [h.2 m hm, if_neg (by omega)]
  · rw [Array.getElem?_eq_none (by rw [h.1]; omega), List.getElem?_eq_none (by unfold rowV; rw [List.length_map, hx]; omega)]
theorem build_rino7 (x0 x1 x2 x3 x4 x13 x14 : Int) (w : World) : (Instr.build 80 #[(0, .int .u32 x0), (1, .int .u32 x1), (2, .int .i64 x2), (3, .int .i64 x3), (4, .int .u32 x4), (6, .int .i64 x13), (7, .int .i64 x14)]).run Try.prog w = .ok (.agg #[.int .u32 x0, .int .u32 x1, .int .i64 x2, .int .i64 x3, .int .u32 x4, .int .i64 0, .int .i64 0, .int .i64 0, .int .i64 0, .int .i64 0, .int .i64 0, .int .i64 0, .int .i64 0, .int .i64 x13, .int .i64 x14]) w := by kernel_rfl
theorem yieldsIf_rino7 {ops : Array Oper} {S : World → Prop} {o : Oper} {a : Act} (hw : Region.wanted o (yielded ops a.tmps) = true) (y0 y1 y2 y3 y4 y5 y6 : Operand) (ho : o.op = .build 80 #[(0, y0), (1, y1), (2, y2), (3, y3), (4, y4), (6, y5), (7, y6)]) (x0 x1 x2 x3 x4 x13 x14 : Int)
    (h0 : a.eval y0 = .int .u32 x0) (h1 : a.eval y1 = .int .u32 x1) (h2 : a.eval y2 = .int .i64 x2) (h3 : a.eval y3 = .int .i64 x3) (h4 : a.eval y4 = .int .u32 x4) (h5 : a.eval y5 = .int .i64 x13) (h6 : a.eval y6 = .int .i64 x14) : YieldsIf Try.prog ops S o (.agg #[.int .u32 x0, .int .u32 x1, .int .i64 x2, .int .i64 x3, .int .u32 x4, .int .i64 0, .int .i64 0, .int .i64 0, .int .i64 0, .int .i64 0, .int .i64 0, .int .i64 0, .int .i64 0, .int .i64 x13, .int .i64 x14]) a := by
  refine .inl ⟨hw, fun w _ => ?_⟩
  unfold execOp
  have e : ((#[(0, y0), (1, y1), (2, y2), (3, y3), (4, y4), (6, y5), (7, y6)] : Array (Nat × Operand)).map fun (i, x) => (i, a.eval x)) = #[(0, .int .u32 x0), (1, .int .u32 x1), (2, .int .i64 x2), (3, .int .i64 x3), (4, .int .u32 x4), (6, .int .i64 x13), (7, .int .i64 x14)] := by simp [h0, h1, h2, h3, h4, h5, h6]
  simp only [ho, Sem.run_bind, e, build_rino7 x0 x1 x2 x3 x4 x13 x14 w, Result.andThen_ok]
  rfl
set_option maxHeartbeats 6400000 in
theorem rreadIno_is (s : List Nat) (hs : s.length = 128) (hb : Bytes s) (w : World) :
    Calls Try.prog 37 #[.agg (cells s)] w fun e w' => e = .returned (.tuple #[.agg (cellsF (readI s).1), .bool (decide ((readI s).2 = 0))]) ∧ Below w.heap.size w w' := by
  have hzi := zero_rino
  have hbld := build_rino
  obtain ⟨d, hd1, hd2⟩ := row_rino
  have b1 := below_box w (.cells (cells s) 30)
  have n1 := heap_alloc_new w (.cells (cells s) 30)
  obtain ⟨w1, hw1⟩ : ∃ w1, w.alloc (.cells (cells s) 30) = w1 := ⟨_, rfl⟩
  have hs1 : w1.heap.size = w.heap.size + 1 := by rw [← hw1]; simp
  rw [hw1] at b1 n1
  have b2 := below_box w1 (.cells (cellsF zeroI) 80)
  have n2 := heap_alloc_new w1 (.cells (cellsF zeroI) 80)
  have n1' := (b2.block w.heap.size (by omega)).trans n1
  have hB2 := below_next b1 b2
  obtain ⟨w2, hw2⟩ : ∃ x, w1.alloc (.cells (cellsF zeroI) 80) = x := ⟨_, rfl⟩
  have hs2 : w2.heap.size = w.heap.size + 2 := by rw [← hw2]; simp [hs1]
  rw [hw2] at n2 n1' hB2
  rw [hs1] at n2
  have HC := Lib.hid (block_cells hs n1')
  have b3 := below_box w2 (.cells #[.int .i64 2, .int .i64 4, .int .i64 1, .int .i64 4, .int .i64 4, .int .i64 4, .int .i64 4, .int .i64 4, .int .i64 4, .int .i64 4, .int .i64 4, .int .i64 4, .int .i64 4, .int .i64 4, .int .i64 4] 3)
  have n3 := heap_alloc_new w2 (.cells #[.int .i64 2, .int .i64 4, .int .i64 1, .int .i64 4, .int .i64 4, .int .i64 4, .int .i64 4, .int .i64 4, .int .i64 4, .int .i64 4, .int .i64 4, .int .i64 4, .int .i64 4, .int .i64 4, .int .i64 4] 3)
  have n23 := (b3.block (w.heap.size + 1) (by omega)).trans n2
  have hri : ReadsI (w2.alloc (.cells #[.int .i64 2, .int .i64 4, .int .i64 1, .int .i64 4, .int .i64 4, .int .i64 4, .int .i64 4, .int .i64 4, .int .i64 4, .int .i64 4, .int .i64 4, .int .i64 4, .int .i64 4, .int .i64 4, .int .i64 4] 3)) (some ⟨w2.heap.size, 0, none⟩) zeroI.length (zeroI.map fun x => (x.width : Int)) := by
    refine ⟨rfl, .inr ⟨w2.heap.size, 0, rfl, by simp, fun i hi => ?_⟩⟩
    rw [Nat.zero_add, cell_of_row n3 i]
    match i, hi with
    | 0, _ => rfl
    | 1, _ => rfl
    | 2, _ => rfl
    | 3, _ => rfl
    | 4, _ => rfl
    | 5, _ => rfl
    | 6, _ => rfl
    | 7, _ => rfl
    | 8, _ => rfl
    | 9, _ => rfl
    | 10, _ => rfl
    | 11, _ => rfl
    | 12, _ => rfl
    | 13, _ => rfl
    | 14, _ => rfl
  have HOP := Lib.hid (ropened_is 2 (by decide) s hs hb zeroI zeroI_cons (by decide) zeroI_width (by decide) (some ⟨w2.heap.size, 0, none⟩) 15 _ hri)
  have hzn : zeroI.length = 15 := rfl
  rw [hzn] at HOP
  have HB3 : Hid (Below w.heap.size w (w2.alloc (.cells #[.int .i64 2, .int .i64 4, .int .i64 1, .int .i64 4, .int .i64 4, .int .i64 4, .int .i64 4, .int .i64 4, .int .i64 4, .int .i64 4, .int .i64 4, .int .i64 4, .int .i64 4, .int .i64 4, .int .i64 4] 3))) := Lib.hid (below_next hB2 b3)
  have HN2 := Lib.hid n23
  have HSZ3 : Hid (w.heap.size + 1 < (w2.alloc (.cells #[.int .i64 2, .int .i64 4, .int .i64 1, .int .i64 4, .int .i64 4, .int .i64 4, .int .i64 4, .int .i64 4, .int .i64 4, .int .i64 4, .int .i64 4, .int .i64 4, .int .i64 4, .int .i64 4, .int .i64 4] 3)).heap.size) := Lib.hid (by simp; omega)
  have hone := cellsF_one zeroI
  have hszz : (Try.prog.info? 80).map (·.size) = some (cellsF zeroI).size := by rw [cellsF_size]; exact size_rino
  have HONE := Lib.hid hone
  have HSZZ := Lib.hid hszz
  have HD1 := Lib.hid hd1
  rw [hs2] at HOP
  clear b1 n1 b2 n2 n1' hB2 b3 n3 n23 hri hzn hone hszz hd1
  go_enter Try.func37, Try.ntmps37
  go_wp2_with (refine wpList_load_full rfl _ rfl w.heap.size 0 s rfl hs HC.out ?_)
  refine HOP.out.mono ?_
  rintro e w3 ⟨b4, v, rfl, ho3⟩
  have HB4 : Hid (Below w.heap.size w w3) := Lib.hid (below_next HB3.out b4)
  have n24 := (b4.block (w.heap.size + 1) HSZ3.out).trans HN2.out
  have hsz4 : w.heap.size + 1 < w3.heap.size := (Array.getElem?_eq_some_iff.1 n24).1
  have HN4 := Lib.hid n24
  have hd9 := setRow_heap w3 (w.heap.size + 1) _ (cellsF zeroI) _ _ n24
  have hb9 := below_setRow (g := w.heap.size + 1) HB4.out (by omega) (cellsF zeroI)
  have HD9 := Lib.hid hd9
  have HB9 := Lib.hid hb9
  clear b4 HC HOP HB3 HN2 HSZ3 hw1 hw2 hs1 hs2 n24 hd9 hb9
  cases ho : openedOk 2 zeroI s with
  | false =>
    have HF := Lib.hid (readI_no hb (by rw [ho]; simp))
    have hOL : openedL 2 zeroI s = [] := by unfold openedL; rw [if_neg (by rw [ho]; decide)]
    rw [hOL] at ho3
    obtain ⟨a, cap, rfl, _, _, _⟩ := ho3.reads
    have hl0 : (numsV []).length = 0 := rfl
    rw [hl0]
    clear ho3 hOL ho hl0
    go_wp2_with (refine wpList_store_row rfl 80 _ _ rfl (w.heap.size + 1) (cellsF zeroI) rfl rfl _ _ HN4.out HSZZ.out rfl HONE.out ?_)
    refine bodyPost_ret (results_rino rfl _ _ (w.heap.size + 1) zeroI _ _ rfl HD9.out rfl) rfl ?_
    exact ⟨by rw [HF.out]; rfl, HB9.out⟩
  | true =>
    obtain ⟨c, hc, hnl⟩ := opened_len hb ho
    by_cases h55 : (bodyL s).length = 55
    · obtain rfl : c = 1 := by omega
      have hitm := (items_one (bodyL_byt hb) h55).1
      have hOL : openedL 2 zeroI s = zsOf (rdI (bodyL s)) := by unfold openedL; rw [if_pos ho, hitm]; simp
      have hx := rdI_is (bodyL_byt hb)
      have hry := readI_yes hb ho h55
      obtain ⟨x, hxe⟩ : ∃ x, rdI (bodyL s) = x := ⟨_, rfl⟩
      rw [hOL, hxe] at ho3
      rw [hxe] at hx hry
      have hxl : (numsV (zsOf x)).length = 15 := by rw [numsV_length, zsOf_length, hx.1]
      obtain ⟨a, cap, rfl, hrd, hcap, _⟩ := ho3.reads
      rw [hxl] at hcap ⊢
      obtain ⟨x0, e0, k0⟩ := hx.2 0 (by decide)
      obtain ⟨x1, e1, k1⟩ := hx.2 1 (by decide)
      obtain ⟨x2, e2, k2⟩ := hx.2 2 (by decide)
      obtain ⟨x3, e3, k3⟩ := hx.2 3 (by decide)
      obtain ⟨x4, e4, k4⟩ := hx.2 4 (by decide)
      obtain ⟨x13, e13, k13⟩ := hx.2 13 (by decide)
      obtain ⟨x14, e14, k14⟩ := hx.2 14 (by decide)
      obtain ⟨b, off, rfl, hb3, hcell3⟩ : ∃ b off, a = some ⟨b, off, none⟩ ∧ b < w3.heap.size ∧ ∀ (i : Nat) (u : Value), (numsV (zsOf x))[i]? = some u → w3.cell? ⟨b, off + i, none⟩ = some u := by
        obtain ⟨_, h1 | ⟨b, off, e, hb, hcc⟩⟩ := hrd
        · rw [h1] at hxl
          simp at hxl
        · exact ⟨b, off, e, hb, fun i u hu => hcc i u hu⟩
      have hcelW : ∀ (W : World), Below w3.heap.size w3 W → ∀ (i : Nat) (u : Value), (numsV (zsOf x))[i]? = some u → W.cell? ⟨b, off + i, none⟩ = some u := fun W hW i u hu => (hW.cell (p := ⟨b, off + i, none⟩) hb3).trans (hcell3 i u hu)
      have HCW := Lib.hid hcelW
      have BOX := Lib.hid (fun (W : World) (hW : Below w3.heap.size w3 W) => (⟨hcelW W hW 0 _ (num_get e0), hcelW W hW 1 _ (num_get e1), hcelW W hW 2 _ (num_get e2), hcelW W hW 3 _ (num_get e3), hcelW W hW 4 _ (num_get e4), hcelW W hW 13 _ (num_get e13), hcelW W hW 14 _ (num_get e14)⟩ : W.cell? ⟨b, off, none⟩ = some (.int .i64 x0) ∧ W.cell? ⟨b, off + 1, none⟩ = some (.int .i64 x1) ∧ W.cell? ⟨b, off + 2, none⟩ = some (.int .i64 x2) ∧ W.cell? ⟨b, off + 3, none⟩ = some (.int .i64 x3) ∧ W.cell? ⟨b, off + 4, none⟩ = some (.int .i64 x4) ∧ W.cell? ⟨b, off + 13, none⟩ = some (.int .i64 x13) ∧ W.cell? ⟨b, off + 14, none⟩ = some (.int .i64 x14)))
      have c_2 : w3.cell? ⟨b, off + 2, none⟩ = some (.int .i64 x2) := hcell3 2 _ (num_get e2)
      have HX := Lib.hid hx
      have HRY := Lib.hid hry
      have hf2 : fieldZ x 2 = x2 := by unfold fieldZ; rw [e2]; rfl
      by_cases hmy : 1 ≤ x2 ∧ x2 ≤ 2
      · have hmay : mayI x = true := by unfold mayI; rw [hf2]; exact decide_eq_true hmy
        have HF : Hid (readI s = (x, 0)) := Lib.hid (by rw [HRY.out, if_pos hmay])
        have HSX := Lib.hid (And.intro hcap hb3)
        have k0' : (0 : Int) ≤ x0 ∧ x0 < 4294967296 := k0
        have k1' : (0 : Int) ≤ x1 ∧ x1 < 4294967296 := k1
        have k4' : (0 : Int) ≤ x4 ∧ x4 < 4294967296 := k4
        obtain ⟨hm1, hm2⟩ := hmy
        have hd0 : decide (x2 < 1) = false := decide_eq_false (by omega)
        have hd3 : decide (2 < x2) = false := decide_eq_false (by omega)
        have hw_0 : IntKind.u32.wrap x0 = x0 := by simp [IntKind.wrap, IntKind.signed, IntKind.bits]; omega
        have hw_1 : IntKind.u32.wrap x1 = x1 := by simp [IntKind.wrap, IntKind.signed, IntKind.bits]; omega
        have hw_4 : IntKind.u32.wrap x4 = x4 := by simp [IntKind.wrap, IntKind.signed, IntKind.bits]; omega
        have hfill : FillI x 0 #[.int .u32 x0, .int .u32 x1, .int .i64 x2, .int .i64 x3, .int .u32 x4, .int .i64 0, .int .i64 0, .int .i64 0, .int .i64 0, .int .i64 0, .int .i64 0, .int .i64 0, .int .i64 0, .int .i64 x13, .int .i64 x14] := by
          refine ⟨rfl, fun m hm => ?_⟩
          match m, hm with
          | 0, _ => exact (row_get e0).symm
          | 1, _ => exact (row_get e1).symm
          | 2, _ => exact (row_get e2).symm
          | 3, _ => exact (row_get e3).symm
          | 4, _ => exact (row_get e4).symm
          | 5, _ => rfl
          | 6, _ => rfl
          | 7, _ => rfl
          | 8, _ => rfl
          | 9, _ => rfl
          | 10, _ => rfl
          | 11, _ => rfl
          | 12, _ => rfl
          | 13, _ => exact (row_get e13).symm
          | 14, _ => exact (row_get e14).symm
        have HFILL := Lib.hid hfill
        have hsz0 : (cellsF zeroI).size = 15 := rfl
        have K0 : Hid (Below w3.heap.size w3 w3.drew) := Lib.hid (below_drew w3)
        have HNA : Hid ((w3.alloc (.cells #[.int .u32 x0, .int .u32 x1, .int .i64 x2, .int .i64 x3, .int .u32 x4, .int .i64 0, .int .i64 0, .int .i64 0, .int .i64 0, .int .i64 0, .int .i64 0, .int .i64 0, .int .i64 0, .int .i64 x13, .int .i64 x14] 80)).drew.heap[w3.heap.size]? = some (.cells #[.int .u32 x0, .int .u32 x1, .int .i64 x2, .int .i64 x3, .int .u32 x4, .int .i64 0, .int .i64 0, .int .i64 0, .int .i64 0, .int .i64 0, .int .i64 0, .int .i64 0, .int .i64 0, .int .i64 x13, .int .i64 x14] 80 (0, 0))) := Lib.hid (heap_alloc_new w3 (.cells #[.int .u32 x0, .int .u32 x1, .int .i64 x2, .int .i64 x3, .int .u32 x4, .int .i64 0, .int .i64 0, .int .i64 0, .int .i64 0, .int .i64 0, .int .i64 0, .int .i64 0, .int .i64 0, .int .i64 x13, .int .i64 x14] 80))
        have HBA : Hid (Below w3.heap.size w3 (w3.alloc (.cells #[.int .u32 x0, .int .u32 x1, .int .i64 x2, .int .i64 x3, .int .u32 x4, .int .i64 0, .int .i64 0, .int .i64 0, .int .i64 0, .int .i64 0, .int .i64 0, .int .i64 0, .int .i64 0, .int .i64 x13, .int .i64 x14] 80)).drew) := Lib.hid (below_box w3 (.cells #[.int .u32 x0, .int .u32 x1, .int .i64 x2, .int .i64 x3, .int .u32 x4, .int .i64 0, .int .i64 0, .int .i64 0, .int .i64 0, .int .i64 0, .int .i64 0, .int .i64 0, .int .i64 0, .int .i64 x13, .int .i64 x14] 80)).drew
        have HFO : Hid (((((((((((((((((cellsF zeroI).setIfInBounds 0 (.int .u32 x0)).setIfInBounds 1 (.int .u32 x1)).setIfInBounds 2 (.int .i64 x2)).setIfInBounds 3 (.int .i64 x3)).setIfInBounds 4 (.int .u32 x4)).setIfInBounds 5 (.int .i64 0)).setIfInBounds 6 (.int .i64 0)).setIfInBounds 7 (.int .i64 0)).setIfInBounds 8 (.int .i64 0)).setIfInBounds 9 (.int .i64 0)).setIfInBounds 10 (.int .i64 0)).setIfInBounds 11 (.int .i64 0)).setIfInBounds 12 (.int .i64 0)).setIfInBounds 13 (.int .i64 x13)).setIfInBounds 14 (.int .i64 x14)) = #[.int .u32 x0, .int .u32 x1, .int .i64 x2, .int .i64 x3, .int .u32 x4, .int .i64 0, .int .i64 0, .int .i64 0, .int .i64 0, .int .i64 0, .int .i64 0, .int .i64 0, .int .i64 0, .int .i64 x13, .int .i64 x14]) := Lib.hid (by kernel_rfl)
        clear k0 k1 k2 k3 k4 k13 k14 k0' k1' k4' hfill hry hitm hOL ho3 hrd hxl hcell3 hcelW hf2 hmay hm1 hm2 hx hc hnl ho h55 hxe HRY hcap hb3
        clear e0 e1 e2 e3 e4 e13 e14
        go_wp2_with fail
        clear c_2
        refine wp_region_held_drew (S := fun W => W.cell? ⟨b, off, none⟩ = some (.int .i64 x0) ∧ W.cell? ⟨b, off + 1, none⟩ = some (.int .i64 x1) ∧ W.cell? ⟨b, off + 2, none⟩ = some (.int .i64 x2) ∧ W.cell? ⟨b, off + 3, none⟩ = some (.int .i64 x3) ∧ W.cell? ⟨b, off + 4, none⟩ = some (.int .i64 x4) ∧ W.cell? ⟨b, off + 13, none⟩ = some (.int .i64 x13) ∧ W.cell? ⟨b, off + 14, none⟩ = some (.int .i64 x14)) (by kernel_rfl) (BOX.out _ K0.out) (fun hHeld => ?_)
        refine wpAnyH_take (i := 0) (v := .slice (some ⟨b, off, none⟩) 15 cap) rfl (by kernel_rfl) (by kernel_rfl) (by kernel_rfl) (fun _ _ _ h => h) (Or.inl ⟨by rfl, by intro W hSw; (try dsimp only at hSw); go_simp⟩) (by assumption) ?_
        try simp only [Act.put, List.setIfInBounds_toArray, List.set_cons_zero, List.set_cons_succ]
        refine wpAnyH_take (i := 1) (v := .pointer (some ⟨b, off, none⟩)) rfl (by kernel_rfl) (by kernel_rfl) (by kernel_rfl) (fun _ _ _ h => h) (Or.inl ⟨by rfl, by intro W hSw; (try dsimp only at hSw); go_simp⟩) (by assumption) ?_
        try simp only [Act.put, List.setIfInBounds_toArray, List.set_cons_zero, List.set_cons_succ]
        refine wpAnyH_take (i := 2) (v := .int .i64 x0) rfl (by kernel_rfl) (by kernel_rfl) (by kernel_rfl) (fun _ _ _ h => h) (Or.inl ⟨by rfl, by intro W hSw; (try dsimp only at hSw); go_simp⟩) (by assumption) ?_
        try simp only [Act.put, List.setIfInBounds_toArray, List.set_cons_zero, List.set_cons_succ]
        refine wpAnyH_take (i := 3) (v := .int .u32 x0) rfl (by kernel_rfl) (by kernel_rfl) (by kernel_rfl) (fun _ _ _ h => h) (Or.inl ⟨by rfl, by intro W hSw; (try dsimp only at hSw); go_simp⟩) (by assumption) ?_
        try simp only [Act.put, List.setIfInBounds_toArray, List.set_cons_zero, List.set_cons_succ]
        refine wpAnyH_take (i := 4) (v := .slice (some ⟨b, off, none⟩) 15 cap) rfl (by kernel_rfl) (by kernel_rfl) (by kernel_rfl) (fun _ _ _ h => h) (Or.inl ⟨by rfl, by intro W hSw; (try dsimp only at hSw); go_simp⟩) (by assumption) ?_
        try simp only [Act.put, List.setIfInBounds_toArray, List.set_cons_zero, List.set_cons_succ]
        refine wpAnyH_take (i := 5) (v := .pointer (some ⟨b, (off + 1), none⟩)) rfl (by kernel_rfl) (by kernel_rfl) (by kernel_rfl) (fun _ _ _ h => h) (Or.inl ⟨by rfl, by intro W hSw; (try dsimp only at hSw); go_simp⟩) (by assumption) ?_
        try simp only [Act.put, List.setIfInBounds_toArray, List.set_cons_zero, List.set_cons_succ]
        refine wpAnyH_take (i := 6) (v := .int .i64 x1) rfl (by kernel_rfl) (by kernel_rfl) (by kernel_rfl) (fun _ _ _ h => h) (Or.inl ⟨by rfl, by intro W hSw; (try dsimp only at hSw); go_simp⟩) (by assumption) ?_
        try simp only [Act.put, List.setIfInBounds_toArray, List.set_cons_zero, List.set_cons_succ]
        refine wpAnyH_take (i := 7) (v := .int .u32 x1) rfl (by kernel_rfl) (by kernel_rfl) (by kernel_rfl) (fun _ _ _ h => h) (Or.inl ⟨by rfl, by intro W hSw; (try dsimp only at hSw); go_simp⟩) (by assumption) ?_
        try simp only [Act.put, List.setIfInBounds_toArray, List.set_cons_zero, List.set_cons_succ]
        refine wpAnyH_take (i := 8) (v := .slice (some ⟨b, off, none⟩) 15 cap) rfl (by kernel_rfl) (by kernel_rfl) (by kernel_rfl) (fun _ _ _ h => h) (Or.inl ⟨by rfl, by intro W hSw; (try dsimp only at hSw); go_simp⟩) (by assumption) ?_
        try simp only [Act.put, List.setIfInBounds_toArray, List.set_cons_zero, List.set_cons_succ]
        refine wpAnyH_take (i := 9) (v := .pointer (some ⟨b, (off + 2), none⟩)) rfl (by kernel_rfl) (by kernel_rfl) (by kernel_rfl) (fun _ _ _ h => h) (Or.inl ⟨by rfl, by intro W hSw; (try dsimp only at hSw); go_simp⟩) (by assumption) ?_
        try simp only [Act.put, List.setIfInBounds_toArray, List.set_cons_zero, List.set_cons_succ]
        refine wpAnyH_take (i := 10) (v := .int .i64 x2) rfl (by kernel_rfl) (by kernel_rfl) (by kernel_rfl) (fun _ _ _ h => h) (Or.inl ⟨by rfl, by intro W hSw; (try dsimp only at hSw); go_simp⟩) (by assumption) ?_
        try simp only [Act.put, List.setIfInBounds_toArray, List.set_cons_zero, List.set_cons_succ]
        refine wpAnyH_take (i := 11) (v := .slice (some ⟨b, off, none⟩) 15 cap) rfl (by kernel_rfl) (by kernel_rfl) (by kernel_rfl) (fun _ _ _ h => h) (Or.inl ⟨by rfl, by intro W hSw; (try dsimp only at hSw); go_simp⟩) (by assumption) ?_
        try simp only [Act.put, List.setIfInBounds_toArray, List.set_cons_zero, List.set_cons_succ]
        refine wpAnyH_take (i := 12) (v := .pointer (some ⟨b, (off + 3), none⟩)) rfl (by kernel_rfl) (by kernel_rfl) (by kernel_rfl) (fun _ _ _ h => h) (Or.inl ⟨by rfl, by intro W hSw; (try dsimp only at hSw); go_simp⟩) (by assumption) ?_
        try simp only [Act.put, List.setIfInBounds_toArray, List.set_cons_zero, List.set_cons_succ]
        refine wpAnyH_take (i := 13) (v := .int .i64 x3) rfl (by kernel_rfl) (by kernel_rfl) (by kernel_rfl) (fun _ _ _ h => h) (Or.inl ⟨by rfl, by intro W hSw; (try dsimp only at hSw); go_simp⟩) (by assumption) ?_
        try simp only [Act.put, List.setIfInBounds_toArray, List.set_cons_zero, List.set_cons_succ]
        refine wpAnyH_take (i := 14) (v := .slice (some ⟨b, off, none⟩) 15 cap) rfl (by kernel_rfl) (by kernel_rfl) (by kernel_rfl) (fun _ _ _ h => h) (Or.inl ⟨by rfl, by intro W hSw; (try dsimp only at hSw); go_simp⟩) (by assumption) ?_
        try simp only [Act.put, List.setIfInBounds_toArray, List.set_cons_zero, List.set_cons_succ]
        refine wpAnyH_take (i := 15) (v := .pointer (some ⟨b, (off + 4), none⟩)) rfl (by kernel_rfl) (by kernel_rfl) (by kernel_rfl) (fun _ _ _ h => h) (Or.inl ⟨by rfl, by intro W hSw; (try dsimp only at hSw); go_simp⟩) (by assumption) ?_
        try simp only [Act.put, List.setIfInBounds_toArray, List.set_cons_zero, List.set_cons_succ]
        refine wpAnyH_take (i := 16) (v := .int .i64 x4) rfl (by kernel_rfl) (by kernel_rfl) (by kernel_rfl) (fun _ _ _ h => h) (Or.inl ⟨by rfl, by intro W hSw; (try dsimp only at hSw); go_simp⟩) (by assumption) ?_
        try simp only [Act.put, List.setIfInBounds_toArray, List.set_cons_zero, List.set_cons_succ]
        refine wpAnyH_take (i := 17) (v := .int .u32 x4) rfl (by kernel_rfl) (by kernel_rfl) (by kernel_rfl) (fun _ _ _ h => h) (Or.inl ⟨by rfl, by intro W hSw; (try dsimp only at hSw); go_simp⟩) (by assumption) ?_
        try simp only [Act.put, List.setIfInBounds_toArray, List.set_cons_zero, List.set_cons_succ]
        refine wpAnyH_take (i := 18) (v := .slice (some ⟨b, off, none⟩) 15 cap) rfl (by kernel_rfl) (by kernel_rfl) (by kernel_rfl) (fun _ _ _ h => h) (Or.inl ⟨by rfl, by intro W hSw; (try dsimp only at hSw); go_simp⟩) (by assumption) ?_
        try simp only [Act.put, List.setIfInBounds_toArray, List.set_cons_zero, List.set_cons_succ]
        refine wpAnyH_take (i := 19) (v := .pointer (some ⟨b, (off + 13), none⟩)) rfl (by kernel_rfl) (by kernel_rfl) (by kernel_rfl) (fun _ _ _ h => h) (Or.inl ⟨by rfl, by intro W hSw; (try dsimp only at hSw); go_simp⟩) (by assumption) ?_
        try simp only [Act.put, List.setIfInBounds_toArray, List.set_cons_zero, List.set_cons_succ]
        refine wpAnyH_take (i := 20) (v := .int .i64 x13) rfl (by kernel_rfl) (by kernel_rfl) (by kernel_rfl) (fun _ _ _ h => h) (Or.inl ⟨by rfl, by intro W hSw; (try dsimp only at hSw); go_simp⟩) (by assumption) ?_
        try simp only [Act.put, List.setIfInBounds_toArray, List.set_cons_zero, List.set_cons_succ]
        refine wpAnyH_take (i := 21) (v := .slice (some ⟨b, off, none⟩) 15 cap) rfl (by kernel_rfl) (by kernel_rfl) (by kernel_rfl) (fun _ _ _ h => h) (Or.inl ⟨by rfl, by intro W hSw; (try dsimp only at hSw); go_simp⟩) (by assumption) ?_
        try simp only [Act.put, List.setIfInBounds_toArray, List.set_cons_zero, List.set_cons_succ]
        refine wpAnyH_take (i := 22) (v := .pointer (some ⟨b, (off + 14), none⟩)) rfl (by kernel_rfl) (by kernel_rfl) (by kernel_rfl) (fun _ _ _ h => h) (Or.inl ⟨by rfl, by intro W hSw; (try dsimp only at hSw); go_simp⟩) (by assumption) ?_
        try simp only [Act.put, List.setIfInBounds_toArray, List.set_cons_zero, List.set_cons_succ]
        refine wpAnyH_take (i := 23) (v := .int .i64 x14) rfl (by kernel_rfl) (by kernel_rfl) (by kernel_rfl) (fun _ _ _ h => h) (Or.inl ⟨by rfl, by intro W hSw; (try dsimp only at hSw); go_simp⟩) (by assumption) ?_
        try simp only [Act.put, List.setIfInBounds_toArray, List.set_cons_zero, List.set_cons_succ]
        refine wpAnyH_take (i := 24) (v := .agg #[.int .u32 x0, .int .u32 x1, .int .i64 x2, .int .i64 x3, .int .u32 x4, .int .i64 0, .int .i64 0, .int .i64 0, .int .i64 0, .int .i64 0, .int .i64 0, .int .i64 0, .int .i64 0, .int .i64 x13, .int .i64 x14]) rfl (by kernel_rfl) (by kernel_rfl) (by kernel_rfl) (fun _ _ _ h => h) ?_ (by assumption) ?_
        · exact yieldsIf_rino7 (by rfl) (.tmp 37) (.tmp 41) (.tmp 44) (.tmp 47) (.tmp 51) (.tmp 54) (.tmp 57) (by rfl) x0 x1 x2 x3 x4 x13 x14 (by go_simp) (by go_simp) (by go_simp) (by go_simp) (by go_simp) (by go_simp) (by go_simp)
        try simp only [Act.put, List.setIfInBounds_toArray, List.set_cons_zero, List.set_cons_succ]
        refine wpAnyH_ready (rs := [25]) (by kernel_rfl) (by simp) ?_
        refine AllReadyH.cons rfl (fun K' hK' => ?_) AllReadyH.nil
        go_simp
        refine hK'.out _ _ (BOX.out _ (K0.out.alloc (Nat.le_refl _) _)) (fun hHeld => ?_)
        clear hK' K'
        try simp only [Act.put, List.setIfInBounds_toArray, List.set_cons_zero, List.set_cons_succ]
        refine wpAnyH_ready (rs := [26]) (by kernel_rfl) (by simp) ?_
        refine AllReadyH.cons rfl (fun K' hK' => ?_) AllReadyH.nil
        go_simp
        refine hK'.out _ _ (BOX.out _ (K0.out.alloc (Nat.le_refl _) _)) (fun hHeld => ?_)
        clear hK' K'
        try simp only [Act.put, List.setIfInBounds_toArray, List.set_cons_zero, List.set_cons_succ]
        refine wpAnyH_done (by kernel_rfl) ?_ _
        clear hHeld
        go_wp2_with fail
        rw [HFO.out]
        clear HFO
        obtain ⟨wA, hwA⟩ : ∃ x, (w3.alloc (.cells #[.int .u32 x0, .int .u32 x1, .int .i64 x2, .int .i64 x3, .int .u32 x4, .int .i64 0, .int .i64 0, .int .i64 0, .int .i64 0, .int .i64 0, .int .i64 0, .int .i64 0, .int .i64 0, .int .i64 x13, .int .i64 x14] 80)).drew = x := ⟨_, rfl⟩
        rw [hwA] at HNA HBA ⊢
        clear hwA
        go_loopw [7] (fun i wr => ∃ (k : Nat) (A : Array Value), k ≤ 8 ∧ i = .int .i64 k ∧ Hid (FillI x k A) ∧ Hid (wr.heap[w3.heap.size]? = some (.cells A 80 (0, 0))) ∧ Hid (Below w3.heap.size w3 wr)) (fun i _ => 8 - (intOf i).toNat)
        case atStart => exact ⟨0, _, by decide, rfl, HFILL, HNA, HBA⟩
        case round =>
          obtain ⟨k, A, hk, rfl, HFI, HNR, HBR⟩ := hrel
          rename_i wr _
          clear HFILL HNA HBA
          by_cases hlt : k < 8
          · obtain ⟨z, e, _⟩ := HX.out.2 (5 + k) (by omega)
            have ek : kindI (5 + k) = .i64 := if_neg (by omega)
            have eq : widthI (5 + k) = 4 := by unfold widthI; rw [if_neg (by omega), if_neg (by omega)]
            rw [ek, eq] at e
            have hkI : (0 : Int) ≤ (k : Int) ∧ (k : Int) < 8 := by omega
            have hs5 : IntKind.i64.wrap (5 + (k : Int)) = 5 + (k : Int) := IntWalk.i64_in _ (by omega)
            have h5a : (0 : Int) ≤ 5 + (k : Int) := by omega
            have h5b : 5 + (k : Int) < 15 := by omega
            have htn : (5 + (k : Int)).toNat = 5 + k := by omega
            have cl : wr.cell? ⟨b, off + (5 + k), none⟩ = some (.int .i64 z) := HCW.out wr HBR.out (5 + k) _ (num_get e)
            have hfr : wr.frozen? ⟨w3.heap.size, 5 + k, none⟩ = false := frozen_of_row _ _ _ _ _ HNR.out
            have hold : wr.cell? ⟨w3.heap.size, 5 + k, none⟩ = some (.int .i64 0) := by rw [cell_of_row HNR.out, HFI.out.2 _ (by omega), if_pos (by omega)]
            have HST := Lib.hid (heap_setCell_same wr _ (5 + k) _ _ (.int .i64 z) HNR.out)
            have HNXT := Lib.hid (HFI.out.next hlt (row_get e))
            have HBS := Lib.hid (HBR.out.setCell (p := ⟨w3.heap.size, 5 + k, none⟩) (Nat.le_refl _) (.int .i64 z))
            clear e ek eq
            go_wp2
            go_roundw
            case rel => exact ⟨k + 1, _, by omega, by go_num, HNXT, HST, HBS⟩
            case measure => simp [intOf]; omega
          · obtain rfl : k = 8 := by omega
            have hA := HFI.out.full HX.out.1
            subst hA
            have HRR := Lib.hid (rowV_range HNR.out)
            have n2r := (HBR.out.block (w.heap.size + 1) hsz4).trans HN4.out
            have HN2R := Lib.hid n2r
            have HBW : Hid (Below w.heap.size w wr) := Lib.hid (below_next HB4.out HBR.out)
            have hd9' := setRow_heap wr (w.heap.size + 1) _ (cellsF x) _ _ n2r
            have hb9' := below_setRow (g := w.heap.size + 1) HBW.out (by omega) (cellsF x)
            have HD9' := Lib.hid hd9'
            have HB9' := Lib.hid hb9'
            have HSIX : Hid ((Try.prog.info? 80).map (·.size) = some (rowV x).length) := Lib.hid (by unfold rowV; rw [List.length_map, HX.out.1]; exact size_rino)
            have HSZX : Hid ((Try.prog.info? 80).map (·.size) = some (cellsF x).size) := Lib.hid (by rw [cellsF_size, HX.out.1]; exact size_rino)
            have HOLX : Hid ((cellsF zeroI).size = (cellsF x).size) := Lib.hid (by rw [cellsF_size, cellsF_size, HX.out.1]; rfl)
            have HONX := Lib.hid (cellsF_one x)
            clear n2r hd9' hb9'
            go_wp2_with (first
              | refine wpList_load_mid rfl 80 _ rfl w3.heap.size 0 rfl (rowV x) d HRR.out HD1.out hd2 HSIX.out ?_
              | refine wpList_store_row rfl 80 _ _ rfl (w.heap.size + 1) (cellsF x) rfl rfl _ _ HN2R.out HSZX.out HOLX.out HONX.out ?_)
            refine bodyPost_ret (results_rino rfl _ _ (w.heap.size + 1) x _ _ rfl HD9'.out HX.out.1) rfl ?_
            exact ⟨by rw [HF.out]; rfl, HB9'.out⟩
      · have hmay : mayI x = false := by unfold mayI; rw [hf2]; exact decide_eq_false hmy
        have HF : Hid (readI s = (zeroI, 21)) := Lib.hid (by rw [HRY.out, if_neg (by rw [hmay]; decide)])
        clear k0 k1 k2 k3 k4 k13 k14 hry hitm hOL ho3 hrd hxl hcell3 hcelW hf2 hmay hx hc hnl ho h55 hxe HRY hb3
        clear e0 e1 e2 e3 e4 e13 e14
        by_cases h0 : x2 < 1
        · have hd0 : decide (x2 < 1) = true := decide_eq_true h0
          clear hmy h0
          go_wp2_with (refine wpList_store_row rfl 80 _ _ rfl (w.heap.size + 1) (cellsF zeroI) rfl rfl _ _ HN4.out HSZZ.out rfl HONE.out ?_)
          refine bodyPost_ret (results_rino rfl _ _ (w.heap.size + 1) zeroI _ _ rfl HD9.out rfl) rfl ?_
          exact ⟨by rw [HF.out]; rfl, HB9.out⟩
        · have hd0 : decide (x2 < 1) = false := decide_eq_false h0
          have hd3 : decide (2 < x2) = true := decide_eq_true (by omega)
          clear hmy h0
          go_wp2_with (refine wpList_store_row rfl 80 _ _ rfl (w.heap.size + 1) (cellsF zeroI) rfl rfl _ _ HN4.out HSZZ.out rfl HONE.out ?_)
          refine bodyPost_ret (results_rino rfl _ _ (w.heap.size + 1) zeroI _ _ rfl HD9.out rfl) rfl ?_
          exact ⟨by rw [HF.out]; rfl, HB9.out⟩
    · have HF := Lib.hid (readI_no hb (by rintro ⟨_, h⟩; exact h55 h))
      obtain ⟨a, cap, rfl, _, _, _⟩ := ho3.reads
      rw [hnl]
      obtain ⟨m, hm⟩ : ∃ m, c * 15 = m := ⟨_, rfl⟩
      have hne : ¬ m = 15 := by omega
      have hmI : ((m : Int) == 15) = false := by simp; omega
      have hmJ : ((m : Int) != 15) = true := by simp; omega
      rw [hm]
      clear ho3 hc hnl ho h55 hm hne
      go_wp2_with (refine wpList_store_row rfl 80 _ _ rfl (w.heap.size + 1) (cellsF zeroI) rfl rfl _ _ HN4.out HSZZ.out rfl HONE.out ?_)
      refine bodyPost_ret (results_rino rfl _ _ (w.heap.size + 1) zeroI _ _ rfl HD9.out rfl) rfl ?_
      exact ⟨by rw [HF.out]; rfl, HB9.out⟩
end Go.Proofs.Ytpmfkamagdifgaa
