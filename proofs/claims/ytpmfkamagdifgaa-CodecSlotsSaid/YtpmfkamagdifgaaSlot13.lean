/- The law CodecSlots, walked. -/
import Derived.Test.YtpmfkamagdifgaaSlot12
import Derived.Deep.DeepCutAuto
import Derived.BigQuiet
import Derived.Deep.QuietTactic
namespace Go.Proofs.Ytpmfkamagdifgaa
open Go.RowKit Go.Sort
set_option linter.unusedVariables false
set_option linter.unusedSimpArgs false
set_option maxRecDepth 100000

set_option maxHeartbeats 6400000 in
theorem codecSlots_walk (L0 : List (List FldD)) (hL0 : ∀ x ∈ L0, IsFSlot x) (a : Option Addr) (cap : Nat) (a2 : Option Addr) (len2 cap2 : Nat) (bs : List Nat) (w : World) (hr : ReadsR w a 4 (L0.map rowV)) (hcap : L0.length ≤ cap) (hb : Reads w a2 len2 bs) (hbm : len2 ≤ maxLen) :
    Calls Try.prog 3 #[.slice a L0.length cap, .slice a2 len2 cap2] w fun e w' => e = .returned (.bool true) ∧ Below w.heap.size w w' := by
  have hz := zero_sector
  have hzf := zero_full
  have HR := Lib.hid hr
  have HL := Lib.hid hL0
  have HBS := Lib.hid hb
  obtain ⟨L9, hL9⟩ : ∃ n, L0.length = n := ⟨_, rfl⟩
  have HN9 := Lib.hid hL9
  have HBM := Lib.hid hbm
  rw [hL9] at hcap ⊢
  clear hL9 hr hL0 hb hbm
  go_enter Try.func3, Try.ntmps3
  go_wp2_with fail
  refine (awake5_true w).mono ?_
  rintro e w1 ⟨rfl, b1⟩
  have B1 := Lib.hid b1
  clear b1
  go_upto_if 20 with (fail)
  go_cut [0] (fun s wx => w1 = wx ∧ ∃ n, s = .slice a n cap ∧ Hid ((L0.take 14).length = n))
  case first =>
    by_cases hlt : 14 < L9
    · have hx : (14 : Int) < (L9 : Int) := by omega
      have hy : (14 : Int) ≤ (cap : Int) := by omega
      go_wp2
      go_meet
      exact ⟨rfl, 14, rfl, by show _ = _; rw [List.length_take, HN9.out]; omega⟩
    · have hx : ¬ (14 : Int) < (L9 : Int) := by omega
      go_wp2
      go_meet
      exact ⟨rfl, L9, rfl, by show _ = _; rw [List.length_take, HN9.out]; omega⟩
  case rest =>
    obtain ⟨rfl, n, rfl, HN⟩ := hcut
    have HR2 : Hid (ReadsR w a 4 ((L0.take 14).map rowV)) := Lib.hid (by rw [List.map_take]; exact HR.out.takeR 14)
    have HL2 : Hid (∀ x ∈ L0.take 14, IsFSlot x) := Lib.hid (fun x hx => HL.out x (List.mem_of_mem_take hx))
    have hn20 : n ≤ 14 := by rw [← HN.out]; exact List.length_take_le _ _
    generalize L0.take 14 = L at *
    clear HR HL HN9 hcap
    have HR3 := Lib.hid (HR2.out.below B1.out)
    have HPAIR : Hid (∀ x y : Int, x = y → (x != y) = false) := Lib.hid (fun x y h => by subst h; simp)
    go_wp2_with fail
    go_loopw [5, 25] (fun v i wr => ∃ k : Nat, k ≤ n ∧ i = .int .i64 k ∧ Hid (OwnsR' w1.heap.size wr 29 4 v ((L.take k).map rowV)) ∧ Hid (Below w1.heap.size w1 wr)) (fun _ i _ => n - (intOf i).toNat)
    case atStart => exact ⟨0, Nat.zero_le _, rfl, Lib.hid (OwnsR'.nil _ _ _ _), Lib.hid (Below.refl _ _)⟩
    case round =>
      obtain ⟨k, hk, rfl, HO, HBL⟩ := hrel
      rename_i wr _
      by_cases hlt : k < n
      · obtain ⟨x, hx⟩ : ∃ x, L[k]? = some x := ⟨_, List.getElem?_eq_getElem (by rw [HN.out]; exact hlt)⟩
        have hxi := HL2.out x (List.mem_of_getElem? hx)
        obtain ⟨z0, z1, z2, z3, rfl, k0, k1, k2, k3⟩ := hxi
        obtain ⟨b, off, rfl, hb, hc⟩ := (HR3.out.below HBL.out).row (show (L.map rowV)[k]? = some (rowV (fldSlot z0 z1 z2 z3)) by rw [List.getElem?_map, hx]; rfl)
        have hcell : ∀ (i : Nat) (u : Value), (rowV (fldSlot z0 z1 z2 z3))[i]? = some u → wr.cell? ⟨b, off + k * 4 + i, none⟩ = some u := fun i u hi => by
          have h1 := hc i u hi
          rwa [← Nat.add_assoc] at h1
        have c_0 : wr.cell? ⟨b, off + k * 4, none⟩ = some (.int .i64 z0) := hcell 0 _ rfl
        have c_1 : wr.cell? ⟨b, off + k * 4 + 1, none⟩ = some (.int .u32 z1) := hcell 1 _ rfl
        have c_2 : wr.cell? ⟨b, off + k * 4 + 2, none⟩ = some (.int .i64 z2) := hcell 2 _ rfl
        have c_3 : wr.cell? ⟨b, off + k * 4 + 3, none⟩ = some (.int .i64 z3) := hcell 3 _ rfl
        have hx0 : (0 : Int) ≤ (k : Int) := by omega
        have hx1 : (k : Int) < (n : Int) := by omega
        have HTK : Hid ((L.take (k + 1)).map rowV = (L.take k).map rowV ++ [rowV (fldSlot z0 z1 z2 z3)]) := by
          show _ = _
          rw [List.take_add_one, hx, List.map_append]
          rfl
        have HLL : Hid (((L.take k).map rowV).length ≤ 20) := by show _ ≤ _; rw [List.length_map, List.length_take]; omega
        have hsz1 : (wr.alloc (.cells #[.int .i64 z0, .int .u32 z1, .int .i64 z2, .int .i64 z3] 28)).heap.size = wr.heap.size + 1 := by simp
        have HO2 := Lib.hid ((HO.out.alloc (.cells #[.int .i64 z0, .int .u32 z1, .int .i64 z2, .int .i64 z3] 28)).alloc (.cells #[.int .i64 z0, .int .u32 z1, .int .i64 z2, .int .i64 z3] 29))
        have HSW : Hid (w1.heap.size ≤ wr.heap.size) := Lib.hid HBL.out.size
        have HB2 : Hid (Below w1.heap.size w1 ((wr.alloc (.cells #[.int .i64 z0, .int .u32 z1, .int .i64 z2, .int .i64 z3] 28)).alloc (.cells #[.int .i64 z0, .int .u32 z1, .int .i64 z2, .int .i64 z3] 29))) := Lib.hid ((HBL.out.alloc HBL.out.size _).alloc (by have := HBL.out.size; simp; omega) _)
        have hrow : ∀ j u, (rowV (fldSlot z0 z1 z2 z3))[j]? = some u → ((wr.alloc (.cells #[.int .i64 z0, .int .u32 z1, .int .i64 z2, .int .i64 z3] 28)).alloc (.cells #[.int .i64 z0, .int .u32 z1, .int .i64 z2, .int .i64 z3] 29)).cell? ⟨wr.heap.size + 1, j, none⟩ = some u := fun j u hu => by
          rw [← hsz1]
          exact (cell_of_row (heap_alloc_new (wr.alloc (.cells #[.int .i64 z0, .int .u32 z1, .int .i64 z2, .int .i64 z3] 28)) (.cells #[.int .i64 z0, .int .u32 z1, .int .i64 z2, .int .i64 z3] 29)) j).trans ((List.getElem?_toArray (xs := rowV (fldSlot z0 z1 z2 z3))).trans hu)
        have HROW := Lib.hid hrow
        clear hc hcell hx hb hrow hsz1
        go_wp2_with (at_builtin; refine wpList_append_row_at rfl _ _ _ rfl w1.heap.size 29 _ 4 32 Try.underlying25 infoSlot rfl (by decide) _ _ rfl HO2.out (wr.heap.size + 1) 1 (rowV (fldSlot z0 z1 z2 z3)) (by go_simp) rfl HROW.out (fun u hu => by simp only [fldSlot, rowV, List.map_cons, List.map_nil, List.mem_cons, List.not_mem_nil, or_false] at hu; rcases hu with rfl | rfl | rfl | rfl <;> rfl) (by have := HLL.out; omega) (by have := HLL.out; unfold maxLen; omega) (by have := HSW.out; simp; omega) ?_; intro v4 w4 o4 g4 _; have B4 := Lib.hid (HO2.out.grown HB2.out (by have := HSW.out; simp; omega) g4); have O4 := Lib.hid o4; clear o4 g4)
        go_roundw
        case rel =>
          refine ⟨k + 1, by omega, by go_num, ?_, B4⟩
          show OwnsR' _ _ _ _ _ _
          rw [HTK.out]
          exact O4.out
        case measure => simp [intOf]; omega
      · obtain rfl : k = n := by omega
        have htl : L.take k = L := List.take_of_length_le (by rw [HN.out]; exact Nat.le_refl _)
        rw [htl] at HO
        obtain ⟨a4, c4, rfl, hr4, _⟩ := owned_list HO.out
        have HB : Hid (Below w.heap.size w wr) := Lib.hid (below_next B1.out HBL.out)
        have hmk := writeSlot_length HL2.out
        have hmkb := writeSlot_bytes HL2.out
        have herr := writeSlot_err L
        have HW := writeSlots_is L HL2.out a4 c4 hr4
        have HRW := fun (W : World) (hW : Below w.heap.size w W) => rwriteSlots_is (w := W) L HL2.out a cap (HR2.out.below hW) (by rw [HN.out]; omega)
        obtain ⟨mk, hmke⟩ : ∃ x, (writeSlot L).1 = x := ⟨_, rfl⟩
        obtain ⟨er, here⟩ : ∃ x, (writeSlot L).2 = x := ⟨_, rfl⟩
        obtain ⟨okb, hokb⟩ : ∃ x, okSlot L = x := ⟨_, rfl⟩
        rw [hmke] at hmk hmkb
        rw [here, hokb] at herr
        rw [HN.out, hmke, here] at HW
        rw [HN.out, hmke, hokb] at HRW
        rw [HN.out]
        have HWW := Lib.hid HW
        have HRWW := Lib.hid HRW
        have hneq := run_neq_sector mk mk hmk hmk
        rw [decide_eq_true rfl, Bool.not_true] at hneq
        clear HO HBL hr4 HW HRW htl hmke here hokb HR2 HL2 HR3 HN hn20 HPAIR B1
        rcases herr with ⟨rfl, rfl⟩ | ⟨rfl, rfl⟩
        all_goals
          go_wp2_with fail
          refine (HWW.out).mono ?_
          rintro e w5 ⟨rfl, b⟩
          have HB0 : Hid (Below w.heap.size w w5) := HB.out.trans (b.mono HB.out.size)
          clear HB
          have HB := HB0
          clear HB0
          have hszw5 := b.size
          clear b
          have hle5 := HB.out.size
          have nzA := heap_alloc_new w5 (.cells (cells noughts) 31)
          have bbA := below_box w5 (.cells (cells mk) 31)
          have nA := heap_alloc_new w5 (.cells (cells mk) 31)
          have eA := World.setRow_alloc_new w5 (cells noughts) (cells mk) 31
          obtain ⟨w6, hwA⟩ : ∃ wx, w5.alloc (.cells (cells mk) 31) = wx := ⟨_, rfl⟩
          rw [hwA] at bbA nA eA
          have hsA : w6.heap.size = w5.heap.size + 1 := by rw [← hwA]; simp
          have HBA : Hid (Below w.heap.size w w6) := HB.out.trans (bbA.mono HB.out.size)
          clear HB
          have HB := HBA
          clear HBA bbA hwA
          obtain ⟨mA, hmA⟩ : ∃ m, w5.heap.size = m := ⟨_, rfl⟩
          rw [hmA] at nzA nA eA hsA
          have hleA : w.heap.size ≤ mA := by omega
          go_wp2_with (refine wpList_store_sector rfl _ _ rfl mA mk rfl rfl hmk _ _ nzA rfl ?_; rw [eA])
          clear nzA eA hmA HWW
          refine (HRWW.out w6 HB.out).mono ?_
          rintro e w7 ⟨rfl, b⟩
          have nA' := (b.block mA (by omega)).trans nA
          clear nA
          have nA := nA'
          clear nA'
          have HB0 : Hid (Below w.heap.size w w7) := HB.out.trans (b.mono HB.out.size)
          clear HB
          have HB := HB0
          clear HB0
          have hszw7 := b.size
          clear b
          have nzB := heap_alloc_new w7 (.cells (cells noughts) 30)
          have bbB := below_box w7 (.cells (cells mk) 30)
          have nB := heap_alloc_new w7 (.cells (cells mk) 30)
          have eB := World.setRow_alloc_new w7 (cells noughts) (cells mk) 30
          obtain ⟨w8, hwB⟩ : ∃ wx, w7.alloc (.cells (cells mk) 30) = wx := ⟨_, rfl⟩
          rw [hwB] at bbB nB eB
          have hsB : w8.heap.size = w7.heap.size + 1 := by rw [← hwB]; simp
          have nA' := (bbB.block mA (by omega)).trans nA
          have HBB : Hid (Below w.heap.size w w8) := HB.out.trans (bbB.mono HB.out.size)
          clear HB
          have HB := HBB
          clear HBB bbB hwB
          clear nA
          have nA := nA'
          clear nA'
          obtain ⟨mB, hmB⟩ : ∃ m, w7.heap.size = m := ⟨_, rfl⟩
          rw [hmB] at nzB nB eB hsB
          have hleB : w.heap.size < mB := by omega
          have hltB0 : mA < mB := by omega
          have HCA := Lib.hid (block_cells hmk nA)
          have HCB := Lib.hid (block_cells hmk nB)
          go_wp2_with (first
            | (refine wpList_store_full rfl _ _ rfl mB mk rfl rfl hmk _ _ nzB rfl ?_; rw [eB])
            | refine wpList_load_sector rfl _ rfl mA 0 mk rfl hmk HCA.out ?_
            | refine wpList_load_full rfl _ rfl mB 0 mk rfl hmk HCB.out ?_)
          clear HCA HCB nzB eB hmB nB HRWW
          refine (turn_any mk hmk hmkb a2 len2 cap2 bs _ (HBS.out.below HB.out) HBM.out).mono ?_
          rintro e w9 ⟨t0, ht0, hbt0, rfl, b⟩
          have nA' := (b.block mA (by omega)).trans nA
          clear nA
          have nA := nA'
          clear nA'
          have HB0 : Hid (Below w.heap.size w w9) := HB.out.trans (b.mono HB.out.size)
          clear HB
          have HB := HB0
          clear HB0
          have hszw9 := b.size
          clear b
          have nzD := heap_alloc_new w9 (.cells (cells noughts) 31)
          have bbD := below_box w9 (.cells (cells t0) 31)
          have nD := heap_alloc_new w9 (.cells (cells t0) 31)
          have eD := World.setRow_alloc_new w9 (cells noughts) (cells t0) 31
          obtain ⟨w10, hwD⟩ : ∃ wx, w9.alloc (.cells (cells t0) 31) = wx := ⟨_, rfl⟩
          rw [hwD] at bbD nD eD
          have hsD : w10.heap.size = w9.heap.size + 1 := by rw [← hwD]; simp
          have nA' := (bbD.block mA (by omega)).trans nA
          have HBD : Hid (Below w.heap.size w w10) := HB.out.trans (bbD.mono HB.out.size)
          clear HB
          have HB := HBD
          clear HBD bbD hwD
          clear nA
          have nA := nA'
          clear nA'
          obtain ⟨mD, hmD⟩ : ∃ m, w9.heap.size = m := ⟨_, rfl⟩
          rw [hmD] at nzD nD eD hsD
          have hleD : w.heap.size < mD := by omega
          have hltD0 : mA < mD := by omega
          go_upto_if 74 with (refine wpList_store_sector rfl _ _ rfl mD t0 rfl rfl ht0 _ _ nzD rfl ?_; rw [eD])
          clear nzD eD hmD
          go_cut [] (fun wx => Hid (∃ t : List Nat, t.length = 128 ∧ Bytes t ∧ wx.heap[mD]? = some (.cells (cells t) 31 (0, 0))) ∧ Hid (Below w.heap.size w wx))
          case first =>
            have HCA := Lib.hid (block_cells hmk nA)
            have hd9 := setRow_heap _ mD _ (cells mk) _ _ nD
            have hb9 := below_setRow (g := mD) HB.out (by omega) (cells mk)
            by_cases h0 : len2 = 0
            · subst h0
              go_wp2_with (first
                | refine wpList_load_sector rfl _ rfl mA 0 mk rfl hmk HCA.out ?_
                | refine wpList_store_sector rfl _ _ rfl mD mk rfl rfl hmk _ _ nD (by rw [cells_size, ht0]) ?_)
              go_meet
              exact ⟨Lib.hid ⟨mk, hmk, hmkb, hd9⟩, Lib.hid hb9⟩
            · have h0' : ((len2 : Int) == 0) = false := by simp; omega
              go_wp2
              go_meet
              exact ⟨Lib.hid ⟨t0, ht0, hbt0, nD⟩, HB⟩
          case rest =>
            clear nD nA HB
            obtain ⟨HT, HB⟩ := hcut
            obtain ⟨t, ht, hbt, nT⟩ := HT.out
            have HCT := Lib.hid (block_cells ht nT)
            have hszT := (Array.getElem?_eq_some_iff.1 nT).1
            have hrr := readSlot_err t
            have hrows := readSlot_rows hbt
            have hlen := readSlot_len t
            have HRD := Lib.hid (readSlots_is (w := wc) t ht hbt)
            have HRR := fun (W : World) => rreadSlots_is (w := W) t ht hbt
            unfold ReadsPost at HRD
            unfold RReadsSlotPost at HRR
            obtain ⟨Y, hY⟩ : ∃ Y, (readSlot t).1 = Y := ⟨_, rfl⟩
            obtain ⟨re, hre⟩ : ∃ x, (readSlot t).2 = x := ⟨_, rfl⟩
            rw [hY] at hrows hlen
            rw [hre] at hrr
            rw [hY, hre] at HRD
            rw [hY, hre] at HRR
            have HRRW := Lib.hid HRR
            obtain ⟨ny, hny⟩ : ∃ x, Y.length = x := ⟨_, rfl⟩
            have HNY := Lib.hid hny
            have HROWS := Lib.hid hrows
            rw [hny] at hlen
            clear hY hre HRR hny hrows HT HBS HBM hmk hmkb ht0 hbt0 hneq
            go_wp2_with (refine wpList_load_sector rfl _ rfl mD 0 t rfl ht HCT.out ?_)
            refine HRD.out.mono ?_
            rintro e w11 ⟨b11, a5, c5, rfl, o5⟩
            have hr5 := o5.reads5
            have nT1 := (b11.block mD (by omega)).trans nT
            have HCT1 := Lib.hid (block_cells ht nT1)
            have HB11 : Hid (Below w.heap.size w w11) := Lib.hid (below_next HB.out b11)
            rw [HNY.out]
            have HR5 := Lib.hid hr5
            clear b11 o5 hr5 nT nT1 HRD HCT HB
            go_wp2_with (refine wpList_load_sector rfl _ rfl mD 0 t rfl ht HCT1.out ?_)
            refine (HRRW.out w11).mono ?_
            rintro e w12 ⟨b12, a6, c6, rfl, o6⟩
            have HR6 := Lib.hid o6.reads5
            have HR5' := Lib.hid (HR5.out.below b12)
            have HB12 : Hid (Below w.heap.size w w12) := Lib.hid (below_next HB11.out b12)
            rw [HNY.out]
            clear b12 o6 HR5 HRRW HCT1 HB11
            have hdt : decide ((0 : Int) = 0) = true := rfl
            have hdf : decide ((21 : Int) = 0) = false := rfl
            rcases hrr with rfl | rfl
            all_goals
              go_wp2_with fail
              go_loopw [107] (fun i wr => ∃ k : Nat, k ≤ ny ∧ i = .int .i64 k ∧ Hid (Below w12.heap.size w12 wr)) (fun i _ => ny - (intOf i).toNat)
              case atStart => exact ⟨0, Nat.zero_le _, rfl, Lib.hid (Below.refl _ _)⟩
              case round =>
                obtain ⟨k, hk, rfl, HBL⟩ := hrel
                rename_i wr _
                by_cases hlt : k < ny
                · obtain ⟨x, hx⟩ : ∃ x, Y[k]? = some x := ⟨_, List.getElem?_eq_getElem (by rw [HNY.out]; exact hlt)⟩
                  obtain ⟨z0, z1, z2, z3, rfl⟩ := HROWS.out x (List.mem_of_getElem? hx)
                  have hxr : (Y.map rowV)[k]? = some (rowV (fldSlot z0 z1 z2 z3)) := by rw [List.getElem?_map, hx]; rfl
                  obtain ⟨b, off, rfl, hb, hc⟩ := (HR5'.out.below HBL.out).row hxr
                  obtain ⟨b', off', rfl, hb', hc'⟩ := (HR6.out.below HBL.out).row hxr
                  have hcell : ∀ (i : Nat) (u : Value), (rowV (fldSlot z0 z1 z2 z3))[i]? = some u → wr.cell? ⟨b, off + k * 4 + i, none⟩ = some u := fun i u hi => by
                    have h1 := hc i u hi
                    rwa [← Nat.add_assoc] at h1
                  have hcell' : ∀ (i : Nat) (u : Value), (rowV (fldSlot z0 z1 z2 z3))[i]? = some u → wr.cell? ⟨b', off' + k * 4 + i, none⟩ = some u := fun i u hi => by
                    have h1 := hc' i u hi
                    rwa [← Nat.add_assoc] at h1
                  have c_0 : wr.cell? ⟨b, off + k * 4, none⟩ = some (.int .i64 z0) := hcell 0 _ rfl
                  have c_1 : wr.cell? ⟨b, off + k * 4 + 1, none⟩ = some (.int .u32 z1) := hcell 1 _ rfl
                  have c_2 : wr.cell? ⟨b, off + k * 4 + 2, none⟩ = some (.int .i64 z2) := hcell 2 _ rfl
                  have c_3 : wr.cell? ⟨b, off + k * 4 + 3, none⟩ = some (.int .i64 z3) := hcell 3 _ rfl
                  have d_0 : wr.cell? ⟨b', off' + k * 4, none⟩ = some (.int .i64 z0) := hcell' 0 _ rfl
                  have d_1 : wr.cell? ⟨b', off' + k * 4 + 1, none⟩ = some (.int .u32 z1) := hcell' 1 _ rfl
                  have d_2 : wr.cell? ⟨b', off' + k * 4 + 2, none⟩ = some (.int .i64 z2) := hcell' 2 _ rfl
                  have d_3 : wr.cell? ⟨b', off' + k * 4 + 3, none⟩ = some (.int .i64 z3) := hcell' 3 _ rfl
                  have hx0 : (0 : Int) ≤ (k : Int) := by omega
                  have hx1 : (k : Int) < (ny : Int) := by omega
                  clear hc hc' hcell hcell' hx hxr hb hb'
                  go_wp2_with fail
                  go_quiet (fail)
                  rename_i nq
                  go_wp2
                  go_roundw
                  case rel => exact ⟨k + 1, by omega, by go_num, Lib.hid (HBL.out.trans ((below_drewN _ _).mono HBL.out.size))⟩
                  case measure => simp [intOf]; omega
                · obtain rfl : k = ny := by omega
                  go_wp2
                  go_ret
                  exact ⟨rfl, below_next HB12.out HBL.out⟩
end Go.Proofs.Ytpmfkamagdifgaa
