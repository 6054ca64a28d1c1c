/- The law on what is written: names cut to 100 bytes. -/
import Derived.Test.YtpmfkamagdifgaaDir15
import Derived.Deep.DeepCutAuto
import Derived.Deep.QuietTactic
import Derived.Lib.QuietBelow
import Derived.BigQuiet
import Derived.Deep.Slices
namespace Go.Proofs.Ytpmfkamagdifgaa
open Go.ChangeShapes Go.WideShapes Go.RowKit Go.Sort
set_option linter.unusedVariables false
set_option linter.unusedSimpArgs false
set_option maxRecDepth 100000

def cutN (s : ByteArray) : ByteArray := if 100 < s.size then s.extract 0 100 else s
theorem cutN_size (s : ByteArray) : (cutN s).size ≤ 100 := by
  unfold cutN
  split
  · rw [ByteArray.size_extract]; omega
  · omega
def cutE (x : Ent) : Ent := (x.1, cutN x.2)
def cutTo (E : List Ent) (j : Nat) : List Ent := (E.map cutE).take j ++ E.drop j
theorem cutTo_length (E : List Ent) (j : Nat) : (cutTo E j).length = E.length := by
  unfold cutTo
  rw [List.length_append, List.length_take, List.length_map, List.length_drop]
  omega
theorem cutTo_zero (E : List Ent) : cutTo E 0 = E := by unfold cutTo; simp
theorem cutTo_full {E : List Ent} (hE : E.length = 4) : cutTo E 4 = E.map cutE := by
  unfold cutTo
  rw [List.take_of_length_le (by rw [List.length_map]; omega), List.drop_eq_nil_of_le (by omega), List.append_nil]
theorem cutTo_get {E : List Ent} {j : Nat} {x : Ent} (h : E[j]? = some x) : (cutTo E j)[j]? = some x := by
  have hj : j < E.length := (List.getElem?_eq_some_iff.1 h).1
  unfold cutTo
  have hl : ((E.map cutE).take j).length = j := by rw [List.length_take, List.length_map]; omega
  rw [List.getElem?_append_right (by omega), hl, Nat.sub_self, List.getElem?_drop]
  exact h
theorem cutTo_split {E : List Ent} {j : Nat} {x : Ent} (h : E[j]? = some x) : cutTo E j = (E.map cutE).take j ++ x :: E.drop (j + 1) ∧ cutTo E (j + 1) = (E.map cutE).take j ++ cutE x :: E.drop (j + 1) := by
  have hj : j < E.length := (List.getElem?_eq_some_iff.1 h).1
  have hx := (List.getElem?_eq_some_iff.1 h).2
  unfold cutTo
  constructor
  · rw [List.drop_eq_getElem_cons hj, hx]
  · rw [List.take_add_one, List.getElem?_map, h]
    simp
theorem setSame {cs : Array Value} {k : Nat} {v : Value} (h : cs[k]? = some v) : cs.setIfInBounds k v = cs := by
  apply Array.ext_getElem?
  intro i
  rw [Array.getElem?_setIfInBounds]
  have hk := (Array.getElem?_eq_some_iff.1 h).1
  by_cases hi : k = i
  · subst hi
    simp [hk]
    exact (Array.getElem?_eq_some_iff.1 h).2.symm
  · simp [hi]
theorem cutTo_set {E : List Ent} {j : Nat} {x : Ent} (h : E[j]? = some x) : (csE (cutTo E j)).setIfInBounds (j * 2 + 1) (.string (cutN x.2)) = csE (cutTo E (j + 1)) := by
  have hj : j < E.length := (List.getElem?_eq_some_iff.1 h).1
  obtain ⟨e1, e2⟩ := cutTo_split h
  obtain ⟨g1, g2⟩ := csE_get (cutTo_get h)
  have hl : ((E.map cutE).take j).length = j := by rw [List.length_take, List.length_map]; omega
  have hs := csE_set ((E.map cutE).take j) (E.drop (j + 1)) x (cutE x)
  rw [hl, ← e1, ← e2] at hs
  have hx : (cutE x).1 = x.1 := rfl
  rw [hx, setSame g1] at hs
  exact hs
theorem cutTo_skip {E : List Ent} {j : Nat} {x : Ent} (h : E[j]? = some x) (hs : ¬ 100 < x.2.size) : cutTo E (j + 1) = cutTo E j := by
  obtain ⟨e1, e2⟩ := cutTo_split h
  have : cutE x = x := by unfold cutE cutN; rw [if_neg hs]
  rw [e1, e2, this]
theorem quietLoadRow {P : World → Prop} {o : Oper} {a : Act} {K : Act → Prop} (ty : TypeId) (x : Operand) (ho : o.op = .load ty x) (g off : Nat) (cs : List Value) (d : TypeDesc) (hx : a.eval x = .pointer (some ⟨g, off, none⟩))
    (hu : Try.prog.underlying ty = some d) (hd : d.isRow = true) (hi : (Try.prog.info? ty).map (·.size) = some cs.length) (hc : ∀ W, P W → W.rangeAt g off cs) (h : K (a.put o.dst (.agg cs.toArray))) : o.quiet Try.prog a P K :=
  ⟨.agg cs.toArray, fun W hW => by
    unfold Oper.quietAt execOp
    simp only [ho, hx]
    rw [Sem.run_bind, run_loadAt_mid W g off ty cs d (hc W hW) hu hd hi]
    exact ⟨rfl, rfl⟩, h⟩
theorem blk_regrown {W : World} {g : Nat} {X : List Ent} {t : TypeId} (h : W.heap[g]? = some (.cells (csE X) t (0, 0))) : ∀ W', (∃ p : Regrown, W' = grow (redrawn W p.d) p.os) → W'.rangeAt g 0 (X.flatMap entV) := by
  rintro _ ⟨p, rfl⟩
  have hb := below_regrown W p.d p.os
  exact row_range ((hb.block g (Array.getElem?_eq_some_iff.1 h).1).trans h)
set_option maxHeartbeats 3200000 in
theorem direntWrites_walk {E : List Ent} (hE : E.length = 4) (hz : ∀ x ∈ E, I64 x.1 ∧ x.2.size ≤ maxLen) (w : World) :
    Calls Try.prog 12 #[.agg (csE E)] w fun e w' => e = .returned (.bool true) ∧ Below w.heap.size w w' := by
  have b1 := below_box w (.cells (csE E) 132)
  have n1 := heap_alloc_new w (.cells (csE E) 132)
  obtain ⟨w1, hw1⟩ : ∃ w1, w.alloc (.cells (csE E) 132) = w1 := ⟨_, rfl⟩
  have hs1 : w1.heap.size = w.heap.size + 1 := by rw [← hw1]; simp
  rw [hw1] at b1 n1
  have HB1 := Lib.hid b1
  have HE := Lib.hid hE
  have HZ := Lib.hid hz
  clear b1 hE hz
  go_enter Try.func12, Try.ntmps12
  go_wp2_with fail
  refine (awake6_true w1).mono ?_
  rintro e w2 ⟨rfl, b2⟩
  have n2 := (b2.block w.heap.size (by omega)).trans n1
  have HB2 : Hid (Below w.heap.size w w2) := Lib.hid (HB1.out.trans (b2.mono HB1.out.size))
  have HS2 : Hid (w.heap.size < w2.heap.size) := Lib.hid (by have := b2.size; omega)
  have HN2 := Lib.hid n2
  clear b2 n2 n1 hw1 hs1 HB1
  go_wp2_with fail
  go_loopw [3, 11] (fun _ i wr => ∃ j : Nat, j ≤ 4 ∧ i = .int .i64 j ∧ Hid (wr.heap[w.heap.size]? = some (.cells (csE (cutTo E j)) 132 (0, 0))) ∧ Hid (Below w.heap.size w wr ∧ w.heap.size < wr.heap.size)) (fun _ i _ => 4 - (intOf i).toNat)
  case atStart => exact ⟨0, by decide, rfl, by rw [cutTo_zero]; exact HN2, Lib.hid ⟨HB2.out, HS2.out⟩⟩
  case round =>
    obtain ⟨j, hj, rfl, HN, HBL⟩ := hrel
    by_cases hlt : j < 4
    · have hjI : (0 : Int) ≤ (j : Int) ∧ (j : Int) < 4 := by omega
      obtain ⟨⟨z, s⟩, ex⟩ : ∃ x, E[j]? = some x := ⟨_, List.getElem?_eq_getElem (by rw [HE.out]; exact hlt)⟩
      have c1 : wr.cell? ⟨w.heap.size, j * 2 + 1, none⟩ = some (.string s) := (cell_of_row HN.out _).trans (csE_get (cutTo_get ex)).2
      have hszm : s.size ≤ maxLen := (HZ.out _ (List.mem_of_getElem? ex)).2
      unfold maxLen at hszm
      by_cases hbig : 100 < s.size
      · have hbI : (100 : Int) < (s.size : Int) := by omega
        have hcut : cutN s = s.extract 0 100 := if_pos hbig
        have hst := cutTo_set ex
        rw [hcut] at hst
        have f1 : wr.frozen? ⟨w.heap.size, j * 2 + 1, none⟩ = false := frozen_of_row _ _ _ _ _ HN.out
        have n5 := row_stored (i := j * 2 + 1) (u := .string (s.extract 0 100)) HN.out
        rw [hst] at n5
        have HN5 := Lib.hid n5
        have HB5 : Hid (Below w.heap.size w (wr.setCell ⟨w.heap.size, j * 2 + 1, none⟩ (.string (s.extract 0 100))) ∧ w.heap.size < (wr.setCell ⟨w.heap.size, j * 2 + 1, none⟩ (.string (s.extract 0 100))).heap.size) := Lib.hid ⟨HBL.out.1.setCell (Nat.le_refl _) _, by have := (Array.getElem?_eq_some_iff.1 n5).1; exact this⟩
        clear ex hst n5 hcut hbig
        go_wp2
        go_roundw
        case rel => exact ⟨j + 1, by omega, by go_num, HN5, HB5⟩
        case measure => simp [intOf]; omega
      · have hbI : ¬ (100 : Int) < (s.size : Int) := by omega
        have hsk := cutTo_skip ex hbig
        rw [← hsk] at HN
        clear ex hsk hbig
        go_wp2
        go_roundw
        case rel => exact ⟨j + 1, by omega, by go_num, HN, HBL⟩
        case measure => simp [intOf]; omega
    · obtain rfl : j = 4 := by omega
      rw [cutTo_full HE.out] at HN
      have hX4 : (E.map cutE).length = 4 := by rw [List.length_map, HE.out]
      have hXz : ∀ x ∈ E.map cutE, I64 x.1 ∧ x.2.size ≤ 100 := fun x hx => by
        obtain ⟨y, hy, rfl⟩ := List.mem_map.1 hx
        exact ⟨(HZ.out y hy).1, cutN_size _⟩
      have nl := HN.out
      have HB : Hid (Below w.heap.size w wr) := Lib.hid HBL.out.1
      have hszr := HBL.out.2
      clear HN HBL HZ HE
      generalize E.map cutE = X at *
      have HX4 := Lib.hid hX4
      obtain ⟨dR, hdr1, hdr2⟩ := row_rblk
      obtain ⟨dC, hdc1, hdc2⟩ := row_blk
      have HDR := Lib.hid hdr1
      have HDC := Lib.hid hdc1
      have HSR : Hid ((Try.prog.info? 132).map (·.size) = some (X.flatMap entV).length) := Lib.hid (by rw [entV_len, hX4]; exact size_rblk)
      have HSC : Hid ((Try.prog.info? 135).map (·.size) = some (X.flatMap entV).length) := Lib.hid (by rw [entV_len, hX4]; exact size_blk)
      have HSX : Hid ((Try.prog.info? 135).map (·.size) = some (csE X).size) := Lib.hid (by rw [csE_size, hX4]; exact size_blk)
      have HOX : Hid ((csE zeroE).size = (csE X).size) := Lib.hid (by rw [csE_size, csE_size, hX4]; rfl)
      have HNX := Lib.hid (csE_one X)
      have HOW := Lib.hid (fun W : World => own_is hX4 W)
      have HWR := Lib.hid (fun W : World => writeD_is hX4 (fun x hx => ⟨(hXz x hx).1, by have := (hXz x hx).2; omega⟩) W)
      have HRW := Lib.hid (fun W : World => rwriteD_is hX4 (fun x hx => by have := (hXz x hx).2; omega) W)
      have hk : ((writeD X).2 = 0 ∧ X.all mayD = true ∧ (writeD X).1.length = 128 ∧ Bytes (writeD X).1 ∧ readD (writeD X).1 = (X, 0)) ∨ ((writeD X).2 = 1 ∧ X.all mayD = false ∧ (writeD X).1.length = 128) := by
        cases hall : X.all mayD with
        | true => have h := writeD_text hX4 hall; exact .inl ⟨by rw [h], rfl, by rw [h]; exact (textW_facts hX4 hall).1, by rw [h]; exact (textW_facts hX4 hall).2.1, readD_writeD hX4 hall⟩
        | false => have h : writeD X = (noughts, 1) := if_neg (by rw [hall]; decide); exact .inr ⟨by rw [h], rfl, by rw [h]; rfl⟩
      have hmk : (writeD X).1.length = 128 := writeD_length hX4
      obtain ⟨mk, hmke⟩ : ∃ x, (writeD X).1 = x := ⟨_, rfl⟩
      obtain ⟨er, here⟩ : ∃ x, (writeD X).2 = x := ⟨_, rfl⟩
      obtain ⟨ok, hoke⟩ : ∃ x, X.all mayD = x := ⟨_, rfl⟩
      rw [hmke, here] at HWR
      rw [hmke, hoke] at HRW
      rw [hmke, here, hoke] at hk
      rw [hmke] at hmk
      have HK := Lib.hid hk
      have HMK := Lib.hid hmk
      have HEQ := Lib.hid (fun W : World => run_eql_blk hX4 W)
      have hneq := run_neq_sector mk mk hmk hmk
      rw [decide_eq_true rfl, Bool.not_true] at hneq
      have HNEQ := Lib.hid hneq
      have hzs := zero_sector
      have hzf := zero_full
      have hzb := zero_blk
      clear hdr1 hdc1 hX4 hXz hk hmke here hoke hneq hlt hj
      have HRL := Lib.hid (row_range nl)
      go_wp2_with (refine wpList_load_mid rfl 132 _ rfl w.heap.size 0 rfl (X.flatMap entV) dR HRL.out HDR.out hdr2 HSR.out ?_)
      clear HRL
      refine (HOW.out wr).mono ?_
      rintro e w3 ⟨rfl, b⟩
      have nl' := (b.block w.heap.size (by omega)).trans nl
      clear nl
      have nl := nl'
      clear nl'
      have HB0 : Hid (Below w.heap.size w w3) := HB.out.trans (b.mono HB.out.size)
      clear HB
      have HB := HB0
      clear HB0
      have hszw3 := b.size
      clear b
      go_wp2_with fail
      refine (HWR.out w3).mono ?_
      rintro e w4 ⟨rfl, b⟩
      have nl' := (b.block w.heap.size (by omega)).trans nl
      clear nl
      have nl := nl'
      clear nl'
      have HB0 : Hid (Below w.heap.size w w4) := HB.out.trans (b.mono HB.out.size)
      clear HB
      have HB := HB0
      clear HB0
      have hszw4 := b.size
      clear b
      have nzA := heap_alloc_new w4 (.cells (cells noughts) 31)
      have bbA := below_box w4 (.cells (cells mk) 31)
      have nA := heap_alloc_new w4 (.cells (cells mk) 31)
      have eA := World.setRow_alloc_new w4 (cells noughts) (cells mk) 31
      obtain ⟨w5, hwA⟩ : ∃ wx, w4.alloc (.cells (cells mk) 31) = wx := ⟨_, rfl⟩
      rw [hwA] at bbA nA eA
      have hsA : w5.heap.size = w4.heap.size + 1 := by rw [← hwA]; simp
      have nl' := (bbA.block w.heap.size (by omega)).trans nl
      clear nl
      have nl := nl'
      clear nl'
      have HB0 : Hid (Below w.heap.size w w5) := HB.out.trans (bbA.mono HB.out.size)
      clear HB
      have HB := HB0
      clear HB0
      have hszw5 := bbA.size
      clear bbA
      clear hwA
      obtain ⟨mA, hmA⟩ : ∃ m, w4.heap.size = m := ⟨_, rfl⟩
      rw [hmA] at nzA nA eA hsA
      have hltAnl : w.heap.size < mA := by omega
      have HRL := Lib.hid (row_range nl)
      go_wp2_with (first
        | (refine wpList_store_sector rfl _ _ rfl mA mk rfl rfl HMK.out _ _ nzA rfl ?_; rw [eA])
        | refine wpList_load_mid rfl 132 _ rfl w.heap.size 0 rfl (X.flatMap entV) dR HRL.out HDR.out hdr2 HSR.out ?_)
      clear HRL nzA eA hmA
      refine (HRW.out w5).mono ?_
      rintro e w6 ⟨rfl, b⟩
      have nl' := (b.block w.heap.size (by omega)).trans nl
      clear nl
      have nl := nl'
      clear nl'
      have nA' := (b.block mA (by omega)).trans nA
      clear nA
      have nA := nA'
      clear nA'
      have HB0 : Hid (Below w.heap.size w w6) := HB.out.trans (b.mono HB.out.size)
      clear HB
      have HB := HB0
      clear HB0
      have hszw6 := b.size
      clear b
      have nzB := heap_alloc_new w6 (.cells (cells noughts) 30)
      have bbB := below_box w6 (.cells (cells mk) 30)
      have nB := heap_alloc_new w6 (.cells (cells mk) 30)
      have eB := World.setRow_alloc_new w6 (cells noughts) (cells mk) 30
      obtain ⟨w7, hwB⟩ : ∃ wx, w6.alloc (.cells (cells mk) 30) = wx := ⟨_, rfl⟩
      rw [hwB] at bbB nB eB
      have hsB : w7.heap.size = w6.heap.size + 1 := by rw [← hwB]; simp
      have nl' := (bbB.block w.heap.size (by omega)).trans nl
      clear nl
      have nl := nl'
      clear nl'
      have nA' := (bbB.block mA (by omega)).trans nA
      clear nA
      have nA := nA'
      clear nA'
      have HB0 : Hid (Below w.heap.size w w7) := HB.out.trans (bbB.mono HB.out.size)
      clear HB
      have HB := HB0
      clear HB0
      have hszw7 := bbB.size
      clear bbB
      clear hwB
      obtain ⟨mB, hmB⟩ : ∃ m, w6.heap.size = m := ⟨_, rfl⟩
      rw [hmB] at nzB nB eB hsB
      have hltBnl : w.heap.size < mB := by omega
      have hltBnA : mA < mB := by omega
      have HCA := Lib.hid (block_cells HMK.out nA)
      have HCB := Lib.hid (block_cells HMK.out nB)
      have hneq := HNEQ.out
      rcases HK.out with ⟨rfl, rfl, _, hmb, hrd⟩ | ⟨rfl, rfl, _⟩
      · have HRD := Lib.hid (fun W : World => readD_is mk HMK.out hmb W)
        rw [hrd] at HRD
        clear hmb hrd
        go_wp2_with (first
          | (refine wpList_store_full rfl _ _ rfl mB mk rfl rfl HMK.out _ _ nzB rfl ?_; rw [eB])
          | refine wpList_load_sector rfl _ rfl mA 0 mk rfl HMK.out HCA.out ?_
          | refine wpList_load_full rfl _ rfl mB 0 mk rfl HMK.out HCB.out ?_)
        clear HCA HCB nzB eB hmB hneq
        refine (HRD.out w7).mono ?_
        rintro e w8 ⟨rfl, b⟩
        have nl' := (b.block w.heap.size (by omega)).trans nl
        clear nl
        have nl := nl'
        clear nl'
        have nA' := (b.block mA (by omega)).trans nA
        clear nA
        have nA := nA'
        clear nA'
        have nB' := (b.block mB (by omega)).trans nB
        clear nB
        have nB := nB'
        clear nB'
        have HB0 : Hid (Below w.heap.size w w8) := HB.out.trans (b.mono HB.out.size)
        clear HB
        have HB := HB0
        clear HB0
        have hszw8 := b.size
        clear b
        have nzC := heap_alloc_new w8 (.cells (csE zeroE) 135)
        have bbC := below_box w8 (.cells (csE X) 135)
        have nC := heap_alloc_new w8 (.cells (csE X) 135)
        have eC := World.setRow_alloc_new w8 (csE zeroE) (csE X) 135
        obtain ⟨w9, hwC⟩ : ∃ wx, w8.alloc (.cells (csE X) 135) = wx := ⟨_, rfl⟩
        rw [hwC] at bbC nC eC
        have hsC : w9.heap.size = w8.heap.size + 1 := by rw [← hwC]; simp
        have nl' := (bbC.block w.heap.size (by omega)).trans nl
        clear nl
        have nl := nl'
        clear nl'
        have nA' := (bbC.block mA (by omega)).trans nA
        clear nA
        have nA := nA'
        clear nA'
        have nB' := (bbC.block mB (by omega)).trans nB
        clear nB
        have nB := nB'
        clear nB'
        have HB0 : Hid (Below w.heap.size w w9) := HB.out.trans (bbC.mono HB.out.size)
        clear HB
        have HB := HB0
        clear HB0
        have hszw9 := bbC.size
        clear bbC
        clear hwC
        obtain ⟨mC, hmC⟩ : ∃ m, w8.heap.size = m := ⟨_, rfl⟩
        rw [hmC] at nzC nC eC hsC
        have hltCnl : w.heap.size < mC := by omega
        have hltCnA : mA < mC := by omega
        have hltCnB : mB < mC := by omega
        go_wp2_with (refine wpList_store_row rfl 135 _ _ rfl mC (csE X) rfl rfl _ _ nzC HSX.out HOX.out HNX.out ?_; rw [eC])
        clear nzC eC hmC
        have HNC := Lib.hid nC
        have HNL := Lib.hid nl
        have heq : ∀ W : World, (binOp .eql 135 (.agg (X.flatMap entV).toArray) (.agg (csE X))).run Try.prog W = .ok (.bool true) W := HEQ.out
        refine wp_region_quiet_below (by kernel_rfl) (by kernel_rfl) ?_
        repeat (first
          | (go_big_quiet_want; (refine quietLoadRow 135 _ rfl mC 0 (X.flatMap entV) dC rfl HDC.out hdc2 HSC.out (blk_regrown HNC.out) ?_); go_simp; go_big_quiet_on)
          | (go_big_quiet_want; (refine quietLoadRow 132 _ rfl w.heap.size 0 (X.flatMap entV) dR rfl HDR.out hdr2 HSR.out (blk_regrown HNL.out) ?_); go_simp; go_big_quiet_on)
          | go_big_quiet_step ((go_at_call 66; exact Calls.regrown_of (HOW.out _))))
        refine wpQuiet_nil (regrown_name fun w20 b => ?_)
        have HBZ : Hid (Below w.heap.size w w20) := HB.out.trans (b.mono HB.out.size)
        go_wp2
        go_ret
        exact ⟨by simp, HBZ.out⟩
      · go_wp2_with (first
          | (refine wpList_store_full rfl _ _ rfl mB mk rfl rfl HMK.out _ _ nzB rfl ?_; rw [eB])
          | refine wpList_load_sector rfl _ rfl mA 0 mk rfl HMK.out HCA.out ?_
          | refine wpList_load_full rfl _ rfl mB 0 mk rfl HMK.out HCB.out ?_)
        go_ret
        exact ⟨by simp, HB.out⟩
end Go.Proofs.Ytpmfkamagdifgaa
