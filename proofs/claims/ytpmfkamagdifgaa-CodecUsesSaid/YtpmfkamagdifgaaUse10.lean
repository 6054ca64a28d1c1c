/- The document's ReadUses: what it reads of any sector is what the program reads. -/
import Derived.Test.YtpmfkamagdifgaaUse9
import Derived.Test.YtpmfkamagdifgaaStepRow
namespace Go.Proofs.Ytpmfkamagdifgaa
open Go.RowKit Go.Sort
set_option linter.unusedVariables false
set_option linter.unusedSimpArgs false
set_option maxRecDepth 100000

set_option maxHeartbeats 3200000 in
theorem rreadUses_is {w : World} (s : List Nat) (hs : s.length = 128) (hb : Bytes s) :
    Calls Try.prog 24 #[.agg (cells s)] w (RReadsUsePost w (readUse s)) := by
  have b1 := below_box w (.cells (cells s) 30)
  have n1 := heap_alloc_new w (.cells (cells s) 30)
  obtain ⟨w1, hw1⟩ : ∃ w1, w.alloc (.cells (cells s) 30) = w1 := ⟨_, rfl⟩
  rw [hw1] at b1 n1
  have HC := Lib.hid (block_cells hs n1)
  have HB1 := Lib.hid b1
  have b2 := below_box w1 (.cells #[.int .i64 2, .int .i64 1, .int .i64 4] 3)
  have n2 := heap_alloc_new w1 (.cells #[.int .i64 2, .int .i64 1, .int .i64 4] 3)
  have hri : ReadsI (w1.alloc (.cells #[.int .i64 2, .int .i64 1, .int .i64 4] 3)) (some ⟨w1.heap.size, 0, none⟩) zeroUse.length (zeroUse.map fun x => (x.width : Int)) := by
    refine ⟨rfl, .inr ⟨w1.heap.size, 0, rfl, by simp, fun i hi => ?_⟩⟩
    rw [Nat.zero_add, cell_of_row n2 i]
    match i, hi with
    | 0, _ => rfl
    | 1, _ => rfl
    | 2, _ => rfl
  have HRI := Lib.hid hri
  have HB2 : Hid (Below w.heap.size w (w1.alloc (.cells #[.int .i64 2, .int .i64 1, .int .i64 4] 3))) := Lib.hid (below_next b1 b2)
  have HOP := Lib.hid (ropened_is 5 (by decide) s hs hb zeroUse zeroUse_cons (by decide) zeroUse_width (by decide) (some ⟨w1.heap.size, 0, none⟩) 3 _ hri)
  have hzn : zeroUse.length = 3 := rfl
  rw [hzn] at HOP
  clear b1 n1 b2 n2 hri hzn
  go_enter Try.func24, Try.ntmps24
  go_wp2_with (refine wpList_load_full rfl _ rfl w.heap.size 0 s rfl hs HC.out ?_)
  refine HOP.out.mono ?_
  rintro e w3 ⟨b3, v, rfl, ho3⟩
  have HB3 : Hid (Below w.heap.size w w3) := Lib.hid (below_next HB2.out b3)
  clear b3 HC HB1 HRI HB2 HOP hw1
  cases ho : openedOk 5 zeroUse s with
  | false =>
    have hread := readUse_no hs hb ho
    have hOL : openedL 5 zeroUse s = [] := by unfold openedL; rw [if_neg (by rw [ho]; decide)]
    have HRE := Lib.hid hread
    rw [hOL] at ho3
    obtain ⟨a, cap, rfl, _, _, _⟩ := ho3.reads
    have hl0 : (numsV []).length = 0 := rfl
    rw [hl0] at ho3 ⊢
    clear ho3 hread hOL ho hl0
    go_wp2_with fail
    go_loopw [5, 6, 7] (fun o v i wr => o = .bool false ∧ v = .slice none 0 0 ∧ i = .int .i64 0 ∧ wr = w3) (fun _ _ _ _ => 0)
    case atStart => exact ⟨rfl, rfl, rfl, rfl⟩
    case round =>
      obtain ⟨rfl, rfl, rfl, rfl⟩ := hrel
      go_wp2_with fail
      go_ret2
      unfold RReadsUsePost
      rw [HRE.out]
      exact ⟨HB3.out, none, 0, rfl, OwnsR'.nil _ _ _ _⟩
  | true =>
    obtain ⟨c, hc, hlen, _, _, _, _, h120⟩ := countUse_is hb ho
    have hL := itemsUse_is (bodyL_byt hb)
    have hpos := itemsUse_pos (bodyL_byt hb)
    have hread := readUse_yes hb ho
    have hOL : openedL 5 zeroUse s = zsOf (itemsR zeroUse (bodyL s)).flatten := by unfold openedL; rw [if_pos ho]
    obtain ⟨L, hLe⟩ : ∃ L, itemsR zeroUse (bodyL s) = L := ⟨_, rfl⟩
    rw [hOL, hLe] at ho3
    rw [hLe] at hlen hL hpos hread
    have hc20 : c ≤ 20 := by omega
    have hnl := numsUse_len hL
    obtain ⟨a, cap, rfl, hrd, hcap, _⟩ := ho3.reads
    obtain ⟨nl, hnle⟩ : ∃ n, (numsV (zsOf L.flatten)).length = n := ⟨_, rfl⟩
    rw [hnle] at hnl hrd hcap ⊢
    rw [hlen] at hnl
    have hnl100 : nl ≤ 100 := by omega
    have HNL := Lib.hid hnl
    have HL := Lib.hid hL
    have HPOS := Lib.hid hpos
    have HRE := Lib.hid hread
    have HRD := Lib.hid hrd
    have HLEN := Lib.hid hlen
    clear hc hlen h120 hL hpos hread hOL hLe ho3 hnl hrd hnle ho
    go_wp2_with fail
    go_loopw [5, 6, 7] (fun ok v i wr => ∃ j p : Nat, j ≤ c ∧ Hid (p = j * 3) ∧ p ≤ nl ∧ i = .int .i64 p ∧ ok = .bool ((L.take j).all mayUse) ∧ Hid (OwnsR' w3.heap.size wr 46 3 v ((L.take j).map rowV)) ∧ Hid (Below w3.heap.size w3 wr)) (fun _ _ i _ => nl - (intOf i).toNat)
    case atStart => exact ⟨0, 0, Nat.zero_le _, Lib.hid rfl, Nat.zero_le _, rfl, rfl, Lib.hid (OwnsR'.nil _ _ _ _), Lib.hid (Below.refl _ _)⟩
    case round =>
      obtain ⟨j, p, hj, HP, hpn, rfl, rfl, HO, HB⟩ := hrel
      rename_i wr _
      by_cases hlt : j < c
      · obtain ⟨x, hx⟩ : ∃ x, L[j]? = some x := ⟨_, List.getElem?_eq_getElem (by rw [HLEN.out]; exact hlt)⟩
        obtain ⟨z0, z1, z2, rfl, ⟨k0, l0⟩, ⟨k1, l1⟩, ⟨k2, l2⟩⟩ := HPOS.out x (List.mem_of_getElem? hx)
        have hnum : ∀ (i : Nat) (u : Value), i < 3 → (numsV (zsOf (fldUse z0 z1 z2)))[i]? = some u → (numsV (zsOf L.flatten))[p + i]? = some u := fun i u hi hu => by
          rw [HP.out, numsUse_at HL.out hx i hi]
          exact hu
        have hp4 : p + 3 ≤ nl := by
          have h1 := HP.out
          have h2 := HNL.out
          omega
        obtain ⟨b, off, rfl, hb3, hcell3⟩ : ∃ b off, a = some ⟨b, off, none⟩ ∧ b < w3.heap.size ∧ ∀ (i : Nat) (u : Value), i < 3 → (numsV (zsOf (fldUse z0 z1 z2)))[i]? = some u → w3.cell? ⟨b, off + (p + i), none⟩ = some u := by
          obtain ⟨_, h1 | ⟨b, off, e, hb, hcc⟩⟩ := HRD.out
          · have h2 := hnum 0 (.int .i64 z0) (by decide) rfl
            rw [h1] at h2
            simp at h2
          · exact ⟨b, off, e, hb, fun i u hi hu => hcc _ _ (hnum i u hi hu)⟩
        have hcell : ∀ (i : Nat) (u : Value), i < 3 → (numsV (zsOf (fldUse z0 z1 z2)))[i]? = some u → wr.cell? ⟨b, off + (p + i), none⟩ = some u := fun i u hi hu => (HB.out.cell (p := ⟨b, off + (p + i), none⟩) hb3).trans (hcell3 i u hi hu)
        have BOX := Lib.hid (fun (W : World) (hW : Below w3.heap.size w3 W) => (⟨(hW.cell (p := ⟨b, off + p, none⟩) hb3).trans (hcell3 0 _ (by decide) rfl), (hW.cell (p := ⟨b, off + (p + 1), none⟩) hb3).trans (hcell3 1 _ (by decide) rfl), (hW.cell (p := ⟨b, off + (p + 2), none⟩) hb3).trans (hcell3 2 _ (by decide) rfl)⟩ : W.cell? ⟨b, off + p, none⟩ = some (.int .i64 z0) ∧ W.cell? ⟨b, off + (p + 1), none⟩ = some (.int .i64 z1) ∧ W.cell? ⟨b, off + (p + 2), none⟩ = some (.int .i64 z2)))
        have K0 : Hid (Below w3.heap.size w3 wr.drew) := Lib.hid HB.out.drew
        have c_0 : wr.cell? ⟨b, off + p, none⟩ = some (.int .i64 z0) := hcell 0 _ (by decide) rfl
        have c_1 : wr.cell? ⟨b, off + (p + 1), none⟩ = some (.int .i64 z1) := hcell 1 _ (by decide) rfl
        have c_2 : wr.cell? ⟨b, off + (p + 2), none⟩ = some (.int .i64 z2) := hcell 2 _ (by decide) rfl
        have hI : (p : Int) + 2 < (nl : Int) := by omega
        have hIn : (p : Int) < (nl : Int) := by omega
        have hw_2 : IntKind.u32.wrap z2 = z2 := by simp [IntKind.wrap, IntKind.signed, IntKind.bits]; omega
        have hs_1 : IntKind.i64.wrap ((p : Int) + 1) = (p : Int) + 1 := IntWalk.i64_in _ (by omega)
        have hin_1 : (p : Int) + 1 < (nl : Int) := by omega
        have hge_1 : (0 : Int) ≤ (p : Int) + 1 := by omega
        have htn_1 : ((p : Int) + 1).toNat = p + 1 := by omega
        have hs_2 : IntKind.i64.wrap ((p : Int) + 2) = (p : Int) + 2 := IntWalk.i64_in _ (by omega)
        have hin_2 : (p : Int) + 2 < (nl : Int) := by omega
        have hge_2 : (0 : Int) ≤ (p : Int) + 2 := by omega
        have htn_2 : ((p : Int) + 2).toNat = p + 2 := by omega
        have HX := Lib.hid hx
        have HTK : Hid ((L.take (j + 1)).map rowV = (L.take j).map rowV ++ [rowV (fldUse z0 z1 z2)]) := by
          show _ = _
          rw [List.take_add_one, hx, List.map_append]
          rfl
        have HAL : Hid ((L.take (j + 1)).all mayUse = ((L.take j).all mayUse && decide (z1 ≤ 3))) := by
          show _ = _
          rw [List.take_add_one, hx, List.all_append]
          have e : mayUse (fldUse z0 z1 z2) = decide (z1 ≤ 3) := by
            show decide (0 ≤ z1 ∧ z1 ≤ 3) = _
            rw [decide_eq_decide]
            exact ⟨fun h => h.2, fun h => ⟨by omega, h⟩⟩
          simp [e]
        have HLL : Hid (((L.take j).map rowV).length ≤ 20) := by show _ ≤ _; rw [List.length_map, List.length_take]; omega
        have hrow : ∀ j' u, (rowV (fldUse z0 z1 z2))[j']? = some u → (wr.drew.alloc (.cells #[.int .i64 z0, .int .i64 z1, .int .u32 z2] 46)).cell? ⟨wr.heap.size, j', none⟩ = some u := fun j' u hu => (cell_of_row (heap_alloc_new wr.drew (.cells #[.int .i64 z0, .int .i64 z1, .int .u32 z2] 46)) j').trans ((List.getElem?_toArray (xs := rowV (fldUse z0 z1 z2))).trans hu)
        have HROW := Lib.hid hrow
        have HO1 := Lib.hid ((HO.out.below (below_drew wr)).alloc (.cells #[.int .i64 z0, .int .i64 z1, .int .u32 z2] 46))
        have HB1 := Lib.hid (((HB.out.trans ((below_drew wr).mono HB.out.size)).alloc (by have := HB.out.size; exact this) (.cells #[.int .i64 z0, .int .i64 z1, .int .u32 z2] 46)))
        have HSZ : Hid (w3.heap.size ≤ wr.heap.size) := Lib.hid HB.out.size
        clear hcell hcell3 hb3 hnum hx hrow
        cases hall : (L.take j).all mayUse
        all_goals
          rw [hall] at HAL
          clear hall
          go_wp2_with fail
          go_region_held3 (fun W => W.cell? ⟨b, off + p, none⟩ = some (.int .i64 z0) ∧ W.cell? ⟨b, off + (p + 1), none⟩ = some (.int .i64 z1) ∧ W.cell? ⟨b, off + (p + 2), none⟩ = some (.int .i64 z2)) (first | exact BOX.out _ K0.out | exact BOX.out _ HB1.out | exact BOX.out _ B4.out)
            ((first
              | (refine step_append_row_at (by rfl) _ _ _ (by rfl) w3.heap.size 46 _ 3 24 Try.underlying43 infoRUse rfl (by decide) _ _ (by rfl) HO1.out wr.heap.size 1 (rowV (fldUse z0 z1 z2)) (by rfl) rfl HROW.out (fun u hu => by simp only [fldUse, rowV, List.map_cons, List.map_nil, List.mem_cons, List.not_mem_nil, or_false] at hu; rcases hu with rfl | rfl | rfl <;> rfl) (by have := HLL.out; omega) (by have := HLL.out; unfold maxLen; omega) (by have := HSZ.out; simp; omega) ?_; intro v4 w4 o4 g4; have B4 := Lib.hid (HO1.out.grown HB1.out (by have := HSZ.out; simp; omega) g4); have O4 := Lib.hid o4; clear o4 g4)))
          rename_i hHeld
          have cw4 := (BOX.out _ B4.out).2.1
          clear hHeld
          go_wp2_with fail
          go_roundw
          case rel =>
            refine ⟨j + 1, p + 3, by omega, Lib.hid (by have := HP.out; omega), hp4, by go_num, by rw [HAL.out]; rfl, ?_, B4⟩
            show OwnsR' _ _ _ _ _ _
            rw [HTK.out]
            exact O4.out
          case measure => simp [intOf]; omega
      · obtain rfl : j = c := by omega
        have htl : L.take j = L := List.take_of_length_le (by rw [HLEN.out]; exact Nat.le_refl _)
        have hp : p = nl := by have h1 := HP.out; have h2 := HNL.out; omega
        subst hp
        rw [htl] at HO ⊢
        have hO := HO.out
        obtain ⟨a4, c4, rfl, hr4, hl4⟩ := owned_list hO
        have HU : Hid (upUse L = (decide (j ≤ 15) && L.all mayUse)) := by show _ = _; unfold upUse; rw [HLEN.out]
        have hlj := HLEN.out
        obtain ⟨lj, hlje⟩ : ∃ n, L.length = n := ⟨_, rfl⟩
        have HLJ := Lib.hid hlje
        rw [hlje] at HO hlj ⊢
        subst hlj
        clear hr4 hl4 hO htl hlje
        cases hall : L.all mayUse with
        | false =>
          have HR2 : Hid (readUse s = ([], 21)) := by show _ = _; rw [HRE.out, if_neg (by rw [HU.out, hall, Bool.and_false]; decide)]
          clear hall
          go_wp2
          go_ret2
          unfold RReadsUsePost
          rw [HR2.out]
          exact ⟨below_next HB3.out HB.out, none, 0, rfl, OwnsR'.nil _ _ _ _⟩
        | true =>
          by_cases hm : lj ≤ 15
          · have hmI : ¬ ((15 : Int) < (lj : Int)) := by omega
            have HR2 : Hid (readUse s = (L, 0)) := by show _ = _; rw [HRE.out, if_pos (by rw [HU.out, hall, decide_eq_true hm]; rfl)]
            clear hall hm
            go_wp2
            go_ret2
            unfold RReadsUsePost
            rw [HR2.out]
            refine ⟨below_next HB3.out HB.out, a4, c4, ?_, ?_⟩
            · show _ = Ending.returned (.tuple #[.slice a4 L.length c4, .bool (decide ((0 : Int) = 0))])
              rw [HLJ.out]; rfl
            · show OwnsR' _ _ _ _ (.slice a4 L.length c4) _
              rw [HLJ.out]
              exact HO.out.less HB3.out.size
          · have hmI : ((15 : Int) < (lj : Int)) := by omega
            have HR2 : Hid (readUse s = ([], 21)) := by show _ = _; rw [HRE.out, if_neg (by rw [HU.out, decide_eq_false hm, Bool.false_and]; decide)]
            clear hall hm
            go_wp2
            go_ret2
            unfold RReadsUsePost
            rw [HR2.out]
            exact ⟨below_next HB3.out HB.out, none, 0, rfl, OwnsR'.nil _ _ _ _⟩
end Go.Proofs.Ytpmfkamagdifgaa
