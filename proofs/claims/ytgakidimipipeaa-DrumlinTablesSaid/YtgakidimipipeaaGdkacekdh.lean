/- A map read of its sectors, by the program. -/
import Derived.Test.YtgakidimipipeaaGppoahomo
import Derived.Test.YtgakidimipipeaaGmcdpdoda
import Derived.Test.YtgakidimipipeaaGanjhiidd
import Derived.Deep.QuietTactic
import Derived.BigQuiet
namespace Go.Proofs.Ytgakidimipipeaa
open Go.RowKit Go.Sort
set_option linter.unusedVariables false
set_option linter.unusedSimpArgs false
set_option maxRecDepth 100000

/-- A sector, at a step of a region that only reads. -/
theorem quietSecM {P : World → Prop} {o : Oper} {a : Act} {K : Act → Prop} (ty : TypeId) (x : Operand) (ho : o.op = .load ty x) (g off : Nat) (l : List Nat) (hx : a.eval x = .pointer (some ⟨g, off, none⟩)) (hl : l.length = 128)
    (hu : Try.prog.underlying ty = some (.array 128 5)) (hi : (Try.prog.info? ty).map (·.size) = some 128)
    (hc : ∀ W, P W → ∀ j, j < 128 → W.cell? ⟨g, off + j, none⟩ = some (byteV (l.getD j 0))) (h : K (a.put o.dst (.agg (cells l)))) : o.quiet Try.prog a P K :=
  ⟨.agg (cells l), fun W hW => by
    unfold Oper.quietAt execOp
    simp only [ho, hx]
    rw [Sem.run_bind, run_loadAt_mid W g off ty (l.map byteV) _ (fun j v hv => full_parts hl (hc W hW) j v hv) hu rfl (by rw [hi, List.length_map, hl])]
    exact ⟨rfl, rfl⟩, h⟩
/-- A sector of a list of sectors. -/
theorem sec_row {w : World} {a : Option Addr} {sl : List SlotD} {ks : List Nat} (hr : ReadsR w a 128 (secsM sl ks)) (h : ∀ k, (secM sl k).length = 128) {k : Nat} {i : Nat} (hk : ks[i]? = some k) :
    ∃ b off, a = some ⟨b, off, none⟩ ∧ b < w.heap.size ∧ ∀ j, j < 128 → w.cell? ⟨b, off + i * 128 + j, none⟩ = some (byteV ((secM sl k).getD j 0)) := by
  have hx : (secsM sl ks)[i]? = some (cells (secM sl k)).toList := by unfold secsM; rw [List.getElem?_map, hk]; rfl
  obtain ⟨b, off, e, hb, hc⟩ := hr.row hx
  refine ⟨b, off, e, hb, fun j hj => ?_⟩
  rw [show off + i * 128 + j = off + (i * 128 + j) by omega]
  refine hc j _ ?_
  rw [Array.getElem?_toList]
  exact cells_getD (h k) hj
theorem cells_regrownM {w : World} {b off : Nat} {l : List Nat} (h : ∀ j, j < 128 → w.cell? ⟨b, off + j, none⟩ = some (byteV (l.getD j 0))) : ∀ W', (∃ p : Regrown, W' = grow (redrawn w p.d) p.os) → ∀ j, j < 128 → W'.cell? ⟨b, off + j, none⟩ = some (byteV (l.getD j 0)) := by
  rintro _ ⟨p, rfl⟩ j hj
  exact cell_regrown (h j hj) p.d p.os
set_option maxHeartbeats 1200000 in
/-- Two lists of the same sectors are equal. -/
theorem equal_secs {w : World} {a a2 : Option Addr} {sl : List SlotD} {n : Nat} (c c2 : Nat) (hr : ReadsR w a 128 (secsM sl (List.range n))) (hr2 : ReadsR w a2 128 (secsM sl (List.range n))) (h : ∀ k, (secM sl k).length = 128) (hn : n ≤ 100) :
    Calls Try.prog 57 #[.slice a n c, .slice a2 n c2] w fun e w' => e = .returned (.bool true) ∧ Below w.heap.size w w' := by
  have HR := Lib.hid hr
  have HR2 := Lib.hid hr2
  have HH := Lib.hid h
  clear hr hr2 h
  go_enter Try.func57, Try.ntmps57
  go_wp2_with fail
  go_loopw [13] (fun i wr => ∃ k : Nat, k ≤ n ∧ i = .int .i64 k ∧ Hid (Below w.heap.size w wr)) (fun i _ => n - (intOf i).toNat)
  case atStart => exact ⟨0, Nat.zero_le _, rfl, Lib.hid (Below.refl _ _)⟩
  case round =>
    obtain ⟨k, hk, rfl, HB⟩ := hrel
    by_cases hlt : k < n
    · have hki : (List.range n)[k]? = some k := by rw [List.getElem?_range hlt]
      obtain ⟨b, off, rfl, hb, hc⟩ := sec_row (HR.out.below HB.out) HH.out hki
      obtain ⟨b2, off2, rfl, hb2, hc2⟩ := sec_row (HR2.out.below HB.out) HH.out hki
      have HC := Lib.hid (cells_regrownM hc)
      have HC2 := Lib.hid (cells_regrownM hc2)
      have hx0 : (0 : Int) ≤ (k : Int) := by omega
      have hx1 : (k : Int) < (n : Int) := by omega
      have HLN := Lib.hid (HH.out k)
      obtain ⟨S, hS⟩ : ∃ S, secM sl k = S := ⟨_, rfl⟩
      rw [hS] at HC HC2 HLN
      have hneq := run_neq_sector S S HLN.out HLN.out
      rw [decide_eq_true rfl, Bool.not_true] at hneq
      clear hc hc2 hS hki hb hb2
      go_wp2_with fail
      refine wp_region_quiet_below (by kernel_rfl) (by kernel_rfl) ?_
      repeat (first
        | (go_big_quiet_want; (refine quietSecM 41 (.tmp 18) rfl b (off + k * 128) S rfl HLN.out row_sector size_sector HC.out ?_); go_simp; go_big_quiet_on)
        | (go_big_quiet_want; (refine quietSecM 41 (.tmp 22) rfl b2 (off2 + k * 128) S rfl HLN.out row_sector size_sector HC2.out ?_); go_simp; go_big_quiet_on)
        | go_big_quiet_step (fail))
      refine wpQuiet_nil (regrown_name fun w3 b3 => ?_)
      have HB3 : Hid (Below w.heap.size w w3) := HB.out.trans (b3.mono HB.out.size)
      clear b3
      go_wp2
      go_roundw
      case rel => exact ⟨k + 1, by omega, by go_num, HB3⟩
      case measure => simp [intOf]; omega
    · obtain rfl : k = n := by omega
      have hge : ¬ (k : Int) < (k : Int) := by omega
      clear hlt
      go_wp2
      go_ret
      exact ⟨rfl, HB.out⟩
theorem mread_out (n : Int) (hn : n < 1 ∨ 200 < n) (v : Value) (w : World) : Calls Try.prog 15 #[.int .i64 n, v] w fun e w' => e = .returned (.tuple #[.pointer none, .int .i64 1]) ∧ Below w.heap.size w w' := by
  go_enter Try.func15, Try.ntmps15
  go_wp2_with fail
  refine (among_no n 1 200 w hn).mono ?_
  rintro e w1 ⟨rfl, rfl⟩
  go_wp2
  go_ret2
  exact ⟨rfl, Below.refl _ _⟩
theorem mayS_of {s : SlotD} (h : SlotOk s) : mayS s = true := by
  obtain ⟨h1, h2, h3, h4, h5, h6, h7, h8⟩ := h
  unfold mayS inB
  simp [h1, h2, h5, h6, h7, h8]
theorem mayS_all {sl : List SlotD} (h : ∀ s ∈ sl, SlotOk s) : sl.all mayS = true := List.all_eq_true.2 fun s hs => mayS_of (h s hs)
theorem ver_all {sl : List SlotD} (h : ∀ s ∈ sl, SlotOk s) : VerOk sl := fun s hs => ⟨(h s hs).2.2.1, (h s hs).2.2.2.1⟩
theorem IsMap.less {B B' : Nat} {w : World} {g gs : Nat} {sl : List SlotD} (h : IsMap B w g gs sl) (hB : B' ≤ B) : IsMap B' w g gs sl := ⟨h.1, h.2.1.less hB, Nat.le_trans hB h.2.2.1, h.2.2.2⟩
def MReadPost (sl : List SlotD) (n : Int) (w : World) (e : Ending) (w' : World) : Prop :=
  Below w.heap.size w w' ∧ ((n = (sl.length : Int) ∧ ∃ g gs, e = .returned (.tuple #[.pointer (some ⟨g, 0, none⟩), .int .i64 0]) ∧ IsMap w.heap.size w' g gs sl) ∨ (n ≠ (sl.length : Int) ∧ e = .returned (.tuple #[.pointer none, .int .i64 21])))
theorem slots_tens (sl : List SlotD) (k : Nat) : slotsV (sl.take (k * 10)) ++ (((sl.drop (k * 10)).take 10).map fldS).map rowV = slotsV (sl.take ((k + 1) * 10)) := by
  rw [← tens_take]
  unfold slotsV
  rw [List.map_append, List.map_map]
  rfl
theorem rows_one (L : List (List FldD)) : OneRows (L.map rowV) := by
  intro p hp u hu
  obtain ⟨l, _, rfl⟩ := List.mem_map.1 hp
  obtain ⟨x, _, rfl⟩ := List.mem_map.1 hu
  rfl
set_option maxHeartbeats 2000000 in
theorem mread_is {sl : List SlotD} (hok : MapOk sl) (n : Int) (h1 : 1 ≤ n) (h2 : n ≤ 200) (a : Option Addr) (cap : Nat) (w : World) (hr : ReadsR w a 128 (secsM sl (List.range (tens sl.length)))) :
    Calls Try.prog 15 #[.int .i64 n, .slice a (tens sl.length) cap] w (MReadPost sl n w) := by
  have hz := zero_sector
  obtain ⟨hl1, hl2, hso⟩ := hok
  obtain ⟨m, hm⟩ : ∃ m, tens sl.length = m := ⟨_, rfl⟩
  have hm20 : m ≤ 20 := by rw [← hm]; unfold tens; omega
  rw [hm] at hr ⊢
  have HR := Lib.hid hr
  have HM := Lib.hid hm
  have HSO := Lib.hid hso
  have HSL := Lib.hid (secM_len hso)
  have HL := Lib.hid (And.intro hl1 hl2)
  clear hr hm hso hl1 hl2
  go_enter Try.func15, Try.ntmps15
  go_wp2_with fail
  refine (among_yes n 1 200 w h1 h2).mono ?_
  rintro e w1 ⟨rfl, rfl⟩
  go_wp2_with fail
  go_loopw [6, 18] (fun v i wr => ∃ k : Nat, k ≤ m ∧ i = .int .i64 k ∧ Hid (OwnsR' w.heap.size wr 28 4 v (slotsV (sl.take (k * 10)))) ∧ Hid (Below w.heap.size w wr)) (fun _ i _ => m - (intOf i).toNat)
  case atStart => exact ⟨0, Nat.zero_le _, rfl, Lib.hid (OwnsR'.nil _ _ _ _), Lib.hid (Below.refl _ _)⟩
  case round =>
    obtain ⟨k, hk, rfl, HO, HBL⟩ := hrel
    rename_i wr _
    by_cases hlt : k < m
    · have hki : (List.range m)[k]? = some k := by rw [List.getElem?_range hlt]
      obtain ⟨b, off, rfl, hb, hc⟩ := sec_row (HR.out.below HBL.out) HSL.out hki
      have hx0 : (0 : Int) ≤ (k : Int) := by omega
      have hx1 : (k : Int) < (m : Int) := by omega
      have HLT := Lib.hid hlt
      have HKM := Lib.hid hk
      have hSl := HSL.out k
      have hSb := secM_bytes HSO.out k
      have hbk := secM_back HSO.out k
      obtain ⟨S, hS⟩ : ∃ S, secM sl k = S := ⟨_, rfl⟩
      rw [hS] at hc hSl hSb hbk
      obtain ⟨L, hL⟩ : ∃ L, ((sl.drop (k * 10)).take 10).map fldS = L := ⟨_, rfl⟩
      have hst := slots_tens sl k
      rw [hL] at hbk hst
      obtain ⟨q, hq⟩ : ∃ q, L.length = q := ⟨_, rfl⟩
      have hq10 : q ≤ 10 := by rw [← hq, ← hL, List.length_map]; exact List.length_take_le _ _
      have HC := Lib.hid hc
      have HSl := Lib.hid hSl
      have HSb := Lib.hid hSb
      have HBK := Lib.hid hbk
      have HST := Lib.hid hst
      have HQ := Lib.hid hq
      have HQ10 := Lib.hid hq10
      have HLL : Hid ((slotsV (sl.take (k * 10))).length ≤ 200) := Lib.hid (by unfold slotsV; rw [List.length_map, List.length_take]; have := HL.out.2; omega)
      have nS := heap_alloc_new wr (.cells (cells noughts) 41)
      have eS := World.setRow_alloc_new wr (cells noughts) (cells S) 41
      have nS2 := heap_alloc_new wr (.cells (cells S) 41)
      have hB2 := HBL.out.alloc HBL.out.size (.cells (cells S) 41)
      have hO2 := HO.out.alloc (.cells (cells S) 41)
      obtain ⟨W2, hW2⟩ : ∃ W2, wr.alloc (.cells (cells S) 41) = W2 := ⟨_, rfl⟩
      have s2 : W2.heap.size = wr.heap.size + 1 := by rw [← hW2]; simp
      rw [hW2] at eS nS2 hB2 hO2
      have HLD := Lib.hid (block_cells hSl nS2)
      have HB2 := Lib.hid hB2
      have HO2 := Lib.hid hO2
      have HS2 := Lib.hid s2
      clear hc hSl hSb hbk hst hq hq10 hS hL hki hb nS2 hB2 hO2 hW2 s2 hlt hk
      go_wp2_with (first
        | (refine wpList_load_sector rfl _ rfl b (off + k * 128) S rfl HSl.out HC.out ?_)
        | (refine wpList_store_sector rfl _ _ rfl wr.heap.size S rfl rfl HSl.out 41 _ nS rfl ?_; rw [eS])
        | (refine wpList_load_sector rfl _ rfl wr.heap.size 0 S rfl HSl.out HLD.out ?_))
      refine (readSlots_is S HSl.out HSb.out).mono ?_
      rintro e W5 ⟨hb5, a5, c5, rfl, ho5⟩
      rw [HBK.out] at ho5 ⊢
      dsimp only at ho5 ⊢
      obtain ⟨-, -, -, hq5⟩ : True ∧ True ∧ True ∧ ReadsR W5 a5 4 (L.map rowV) := ⟨trivial, trivial, trivial, ho5.reads5⟩
      rw [HQ.out]
      have HB5 : Hid (Below w.heap.size w W5) := HB2.out.trans (hb5.mono HB2.out.size)
      have HO5 : Hid (OwnsR' w.heap.size W5 28 4 u6 (slotsV (sl.take (k * 10)))) := HO2.out.below hb5
      have HQ5 := Lib.hid hq5
      have HMQ : Hid ((L.map rowV).length = q) := Lib.hid (by rw [List.length_map, HQ.out])
      clear ho5 hb5 hq5
      go_wp2_with (at_builtin; refine wpList_append_rows' rfl _ _ _ rfl w.heap.size 28 _ 4 32 Try.underlying24 infoSlot rfl (by decide) _ _ rfl HO5.out a5 c5 (L.map rowV) (by rw [HMQ.out]; rfl) HQ5.out (rows_one L) (by rw [HMQ.out]; have := HLL.out; have := HQ10.out; omega) (by rw [HMQ.out]; have := HLL.out; have := HQ10.out; unfold maxLen; omega) HB5.out.size ?_; intro v6 w6 o6 g6; have G6 := Lib.hid (HO5.out.grown HB5.out HB5.out.size g6); have O6 := Lib.hid o6; clear o6 g6)
      go_roundw
      case rel =>
        refine ⟨k + 1, HLT.out, by go_num, ?_, G6⟩
        show OwnsR' _ _ _ _ _ _
        rw [← HST.out]
        exact O6.out
      case measure => have := HLT.out; simp [intOf]; omega
    · obtain rfl : k = m := by omega
      have hge : ¬ (k : Int) < (k : Int) := by omega
      have hta : sl.take (k * 10) = sl := by rw [← HM.out]; exact tens_all sl
      rw [hta] at HO
      obtain ⟨a6, c6, rfl, hr6, -, -⟩ := HO.out.reads
      have hsl : (slotsV sl).length = sl.length := by unfold slotsV; rw [List.length_map]
      rw [hsl]
      have hld := mload_is sl a6 c6 wr hr6 HL.out.1 HL.out.2 (ver_all HSO.out)
      obtain ⟨N, hN⟩ : ∃ N, sl.length = N := ⟨_, rfl⟩
      have HN := Lib.hid hN
      rw [hN] at hld ⊢
      have HLD := Lib.hid hld
      clear hta HO hr6 hsl hld hlt hN
      go_wp2_with fail
      refine HLD.out.mono ?_
      rintro e W5 ⟨hb5, ⟨-, g, gs, rfl, hmp⟩ | ⟨hno, -⟩⟩
      · have HB5 : Hid (Below w.heap.size w W5) := HBL.out.trans (hb5.mono HBL.out.size)
        have hms := msize_is hmp
        rw [HN.out] at hms
        have HMS := Lib.hid hms
        have HMP := Lib.hid hmp
        clear hb5 hmp hms
        by_cases hnn : n = (N : Int)
        · have hd : (decide ((N : Int) = n)) = true := decide_eq_true hnn.symm
          go_wp2_with fail
          refine HMS.out.mono ?_
          rintro e w6 ⟨rfl, rfl⟩
          go_wp2_with fail
          have hsec := msectors_is HMP.out
          rw [HM.out] at hsec
          refine hsec.mono ?_
          rintro e W6 ⟨v, rfl, hv, hb6⟩
          have hO6 : OwnsR' W5.heap.size W6 41 128 v (secsM sl (List.range k)) := ⟨secsM_rows HSL.out _, by rw [show (secsM sl (List.range k)).length = k by unfold secsM; rw [List.length_map, List.length_range]]; exact hv⟩
          obtain ⟨a7, c7, rfl, hr7, -, -⟩ := hO6.reads
          rw [show (secsM sl (List.range k)).length = k by unfold secsM; rw [List.length_map, List.length_range]]
          have HB6 : Hid (Below w.heap.size w W6) := HB5.out.trans (hb6.mono HB5.out.size)
          have heq := equal_secs (w := W6) c7 cap hr7 (HR.out.below HB6.out) HSL.out (by omega)
          have HEQ := Lib.hid heq
          have HMP6 := Lib.hid (HMP.out.below hb6)
          clear hsec hv hb6 hO6 hr7 heq
          go_wp2_with fail
          refine HEQ.out.mono ?_
          rintro e W7 ⟨rfl, hb7⟩
          have HB7 : Hid (Below w.heap.size w W7) := HB6.out.trans (hb7.mono HB6.out.size)
          have HMP7 := Lib.hid (HMP6.out.below hb7)
          clear hb7
          go_wp2
          go_ret2
          exact ⟨HB7.out, .inl ⟨by rw [HN.out]; exact hnn, g, gs, rfl, HMP7.out.less HBL.out.size⟩⟩
        · have hd : (decide ((N : Int) = n)) = false := decide_eq_false (fun h => hnn h.symm)
          go_wp2_with fail
          refine HMS.out.mono ?_
          rintro e w6 ⟨rfl, rfl⟩
          go_wp2_with fail
          go_ret2
          exact ⟨HB5.out, .inr ⟨by rw [HN.out]; exact hnn, rfl⟩⟩
      · rw [mayS_all HSO.out] at hno
        cases hno
end Go.Proofs.Ytgakidimipipeaa
