/- The document's sectors of a map. -/
import Derived.Test.YtgakidimipipeaaGibfpgcca
import Derived.Test.YtgakidimipipeaaGkngglbdk
namespace Go.Proofs.Ytgakidimipipeaa
open Go.RowKit Go.Sort
set_option linter.unusedVariables false
set_option linter.unusedSimpArgs false
set_option maxRecDepth 100000

theorem full_infoM : (Try.prog.info? 40).map (fun i => (i.zero, i.size, i.bytes)) = some (some (.agg (cells noughts)), 128, 128) := by kernel_rfl
theorem slice_fullM (s : List Nat) (hs : s.length = 128) (w : World) : (Instr.buildSlice 38 1 #[(0, .agg (cells s))]).run Try.prog w = .ok (.slice (some ⟨w.heap.size, 0, none⟩) 1 1) (w.alloc (.cells (cells s) 40)) := by
  obtain ⟨i0, hi, hz0, hz1, hz2⟩ := info_parts full_infoM
  refine run_buildSlice w _ 40 1 _ _ i0 _ Try.underlying38 hi hz0 (by rw [hz1]; decide) (by rw [hz1]; decide) ?_
  rw [hz1]
  have hl : (cells s).size = 128 := by rw [cells_size, hs]
  have hw := Great.fill_whole (s := 128) (by decide) [Value.agg (cells s)] ((Array.range (1 * 128)).map ((Value.agg (cells noughts)).cells[· % (Value.agg (cells noughts)).cells.size]!)) (by intro v hv; simp only [List.mem_singleton] at hv; subst hv; simpa [Value.cells] using hl) (by simp)
  simpa [Value.cells] using hw
theorem wpList_slice_fullM {ops : Array Oper} {rest : List Oper} {op : Oper} {a : Act} {w : World} {Q : Exit → Act → World → Prop} (hgd : op.guard = none) (x : Operand)
    (ho : op.op = .buildSlice 38 1 #[(0, x)]) (s : List Nat) (hx : a.eval x = .agg (cells s)) (hs : s.length = 128)
    (h : wpList Try.prog ops Q rest (a.put op.dst (.slice (some ⟨w.heap.size, 0, none⟩) 1 1)) (w.alloc (.cells (cells s) 40))) : wpList Try.prog ops Q (op :: rest) a w := by
  refine wpList_plain hgd fun K hK => ?_
  unfold Oper.wp
  unfold execOp
  have e : ((#[(0, x)] : Array (Nat × Operand)).map fun (i, x) => (i, a.eval x)) = #[(0, Value.agg (cells s))] := by simp [hx]
  simp only [ho, Sem.run_bind, e, slice_fullM s hs w, Result.andThen_ok]
  exact hK _ _ h
set_option maxHeartbeats 1600000 in
theorem rsectors_is (sl : List SlotD) (hok : ∀ s ∈ sl, SlotOk s) (hn : sl.length ≤ 400) (b off cap : Nat) (w : World) (hr : ReadsR w (some ⟨b, off, none⟩) 4 (slotsV sl)) (hc : sl.length ≤ cap) :
    Calls Try.prog 14 #[.slice (some ⟨b, off, none⟩) sl.length cap] w fun e w' => ∃ v, e = .returned v ∧ OwnsR' w.heap.size w' 40 128 v (secsM sl (List.range (tens sl.length))) ∧ Below w.heap.size w w' := by
  have hz := zero_full
  obtain ⟨n, hl⟩ : ∃ n, sl.length = n := ⟨_, rfl⟩
  have HR := Lib.hid hr
  have HL := Lib.hid hl
  have HOK := Lib.hid hok
  rw [hl] at hn hc ⊢
  clear hr hl hok
  go_enter Try.func14, Try.ntmps14
  go_wp2_with fail
  go_loopw [3, 4] (fun v i wr => ∃ k : Nat, k ≤ tens n ∧ i = .int .i64 ((k * 10 : Nat) : Int) ∧ Hid (OwnsR' w.heap.size wr 40 128 v (secsM sl (List.range k))) ∧ Hid (Below w.heap.size w wr)) (fun _ i _ => 500 - (intOf i).toNat)
  case atStart => exact ⟨0, Nat.zero_le _, by simp, Lib.hid (OwnsR'.nil _ _ _ _), Lib.hid (Below.refl _ _)⟩
  case round =>
    obtain ⟨k, hk, rfl, HO, HBL⟩ := hrel
    rename_i wr _
    by_cases hlt : k < tens n
    · have hkn : k * 10 < n := by unfold tens at hlt; omega
      obtain ⟨j, hj⟩ : ∃ j, k * 10 = j := ⟨_, rfl⟩
      rw [hj] at hkn ⊢
      obtain ⟨q, hq⟩ : ∃ q, min 10 (n - j) = q := ⟨_, rfl⟩
      have HJ := Lib.hid hj
      have HQ := Lib.hid hq
      have HLT := Lib.hid hlt
      have HK := Lib.hid hk
      have hx1 : (j : Int) < (n : Int) := by omega
      have hcj : ¬ cap = j := by omega
      have hx3 : (n : Int) ≤ (cap : Int) := by omega
      obtain ⟨L, hL⟩ : ∃ L, ((sl.drop (k * 10)).take 10).map fldS = L := ⟨_, rfl⟩
      have hLq : L.length = q := by rw [← hL, List.length_map, List.length_take, List.length_drop, HL.out, hj, hq]
      have hRL : ∀ W, Below w.heap.size w W → ReadsR W (some ⟨b, off + j * 4, none⟩) 4 (L.map rowV) := fun W hB => by
        rw [← hL, fldS_rows, ← hj]
        exact (HR.out.below hB).partAt (k * 10) 10
      have hLF : ∀ y ∈ L, IsFSlot y := by
        rw [← hL]
        intro y hy
        obtain ⟨s, hs, rfl⟩ := List.mem_map.1 hy
        exact fldS_ok (part_ok HOK.out _ _ s hs)
      have hws := fun (c : Nat) => rwriteSlots_is (w := wr) L hLF (some ⟨b, off + j * 4, none⟩) c (hRL wr HBL.out) (by omega)
      rw [hLq] at hws
      have hS8 := writeSlot_length hLF
      have hsm : secM sl k = (writeSlot L).1 := by unfold secM; rw [hL]
      obtain ⟨S, hS⟩ : ∃ S, (writeSlot L).1 = S := ⟨_, rfl⟩
      obtain ⟨er, her⟩ : ∃ er, okSlot L = er := ⟨_, rfl⟩
      rw [hS, her] at hws
      rw [hS] at hS8 hsm
      have HWS := Lib.hid hws
      have HSM := Lib.hid hsm
      have HS8 := Lib.hid hS8
      have HSL := Lib.hid (secsM_rows (secM_len HOK.out) (List.range k))
      clear hLq hRL hLF hws hS8 hsm hS her hL
      by_cases hto : (n : Int) < (j : Int) + 10
      · have hx2 : (j : Int) ≤ (n : Int) := by omega
        have HQ1 : Hid (n - j = q) := Lib.hid (by omega)
        clear hj hq hlt hk hkn
        go_wp2_with fail
        rw [HQ1.out]
        refine (HWS.out _).mono ?_
        rintro e W3 ⟨rfl, hb⟩
        have hO3 := HO.out.below hb
        have hB3 := HBL.out.trans (hb.mono HBL.out.size)
        have hsz3 := hB3.size
        have nS := heap_alloc_new W3 (.cells (cells noughts) 40)
        have eS := World.setRow_alloc_new W3 (cells noughts) (cells S) 40
        have nS2 := heap_alloc_new W3 (.cells (cells S) 40)
        have hO4 := hO3.alloc (.cells (cells S) 40)
        have hB4 := hB3.alloc hsz3 (.cells (cells S) 40)
        obtain ⟨W4, hW4⟩ : ∃ W4, W3.alloc (.cells (cells S) 40) = W4 := ⟨_, rfl⟩
        have s4 : W4.heap.size = W3.heap.size + 1 := by rw [← hW4]; simp
        rw [hW4] at eS nS2 hO4 hB4
        have HLD := Lib.hid (block_cells HS8.out nS2)
        have HO5 := Lib.hid (hO4.alloc (.cells (cells S) 40))
        have n5 := heap_alloc_new W4 (.cells (cells S) 40)
        have hrow : ∀ j u, ((cells S).toList)[j]? = some u → (W4.alloc (.cells (cells S) 40)).cell? ⟨W4.heap.size, j, none⟩ = some u := fun j u hu => (cell_of_row n5 j).trans (by rw [← Array.getElem?_toList]; exact hu)
        have HROW := Lib.hid hrow
        have HLL : Hid ((secsM sl (List.range k)).length ≤ 100) := Lib.hid (by have h1 := HLT.out; unfold secsM; rw [List.length_map, List.length_range]; unfold tens at h1; omega)
        have hS8l : (cells S).toList.length = 128 := by rw [Array.length_toList, cells_size, HS8.out]
        have HS8T := Lib.hid hS8l
        have HLE : Hid (w.heap.size ≤ (W4.alloc (.cells (cells S) 40)).heap.size) := Lib.hid (by simp; omega)
        have HB5 := Lib.hid (hB4.alloc hB4.size (.cells (cells S) 40))
        clear hb hO3 hB3 hsz3 hO4 hB4 hW4 nS2 n5 hrow hS8l s4
        go_wp2_with (first
          | (refine wpList_store_full rfl _ _ rfl W3.heap.size S rfl rfl HS8.out _ _ nS rfl ?_; rw [eS])
          | (refine wpList_load_full rfl _ rfl W3.heap.size 0 S rfl HS8.out HLD.out ?_)
          | (refine wpList_slice_fullM rfl _ rfl S rfl HS8.out ?_)
          | (at_builtin; refine wpList_append_row_at rfl _ _ _ rfl w.heap.size 40 _ 128 128 Try.underlying38 full_infoM rfl (by decide) _ _ rfl HO5.out W4.heap.size 1 (cells S).toList rfl HS8T.out HROW.out (fun u hu => cells_onecell hu) (by have := HLL.out; omega) (by have := HLL.out; unfold maxLen; omega) HLE.out ?_; intro v5 w5 o5 g5 _; have G5 := Lib.hid (HO5.out.grown HB5.out HLE.out g5); have O5 := Lib.hid o5; clear o5 g5))
        go_roundw
        case rel =>
          refine ⟨k + 1, HLT.out, by rw [Nat.succ_mul, HJ.out]; simp, ?_, G5⟩
          have e1 : secsM sl (List.range (k + 1)) = secsM sl (List.range k) ++ [(cells S).toList] := by
            unfold secsM
            rw [List.range_succ, List.map_append]
            simp only [List.map_cons, List.map_nil, HSM.out]
          rw [e1]
          exact O5
        case measure => have h1 := HLT.out; have h2 := HJ.out; have h3 := hn; unfold tens at h1; simp [intOf]; omega
      · have hx4 : (j : Int) + 10 ≤ (cap : Int) := by omega
        have hx5 : (j : Int) ≤ (j : Int) + 10 := by omega
        have hq10 : q = 10 := by omega
        subst hq10
        clear hj hq hlt hk hkn
        go_wp2_with fail
        refine (HWS.out _).mono ?_
        rintro e W3 ⟨rfl, hb⟩
        have hO3 := HO.out.below hb
        have hB3 := HBL.out.trans (hb.mono HBL.out.size)
        have hsz3 := hB3.size
        have nS := heap_alloc_new W3 (.cells (cells noughts) 40)
        have eS := World.setRow_alloc_new W3 (cells noughts) (cells S) 40
        have nS2 := heap_alloc_new W3 (.cells (cells S) 40)
        have hO4 := hO3.alloc (.cells (cells S) 40)
        have hB4 := hB3.alloc hsz3 (.cells (cells S) 40)
        obtain ⟨W4, hW4⟩ : ∃ W4, W3.alloc (.cells (cells S) 40) = W4 := ⟨_, rfl⟩
        have s4 : W4.heap.size = W3.heap.size + 1 := by rw [← hW4]; simp
        rw [hW4] at eS nS2 hO4 hB4
        have HLD := Lib.hid (block_cells HS8.out nS2)
        have HO5 := Lib.hid (hO4.alloc (.cells (cells S) 40))
        have n5 := heap_alloc_new W4 (.cells (cells S) 40)
        have hrow : ∀ j u, ((cells S).toList)[j]? = some u → (W4.alloc (.cells (cells S) 40)).cell? ⟨W4.heap.size, j, none⟩ = some u := fun j u hu => (cell_of_row n5 j).trans (by rw [← Array.getElem?_toList]; exact hu)
        have HROW := Lib.hid hrow
        have HLL : Hid ((secsM sl (List.range k)).length ≤ 100) := Lib.hid (by have h1 := HLT.out; unfold secsM; rw [List.length_map, List.length_range]; unfold tens at h1; omega)
        have hS8l : (cells S).toList.length = 128 := by rw [Array.length_toList, cells_size, HS8.out]
        have HS8T := Lib.hid hS8l
        have HLE : Hid (w.heap.size ≤ (W4.alloc (.cells (cells S) 40)).heap.size) := Lib.hid (by simp; omega)
        have HB5 := Lib.hid (hB4.alloc hB4.size (.cells (cells S) 40))
        clear hb hO3 hB3 hsz3 hO4 hB4 hW4 nS2 n5 hrow hS8l s4
        go_wp2_with (first
          | (refine wpList_store_full rfl _ _ rfl W3.heap.size S rfl rfl HS8.out _ _ nS rfl ?_; rw [eS])
          | (refine wpList_load_full rfl _ rfl W3.heap.size 0 S rfl HS8.out HLD.out ?_)
          | (refine wpList_slice_fullM rfl _ rfl S rfl HS8.out ?_)
          | (at_builtin; refine wpList_append_row_at rfl _ _ _ rfl w.heap.size 40 _ 128 128 Try.underlying38 full_infoM rfl (by decide) _ _ rfl HO5.out W4.heap.size 1 (cells S).toList rfl HS8T.out HROW.out (fun u hu => cells_onecell hu) (by have := HLL.out; omega) (by have := HLL.out; unfold maxLen; omega) HLE.out ?_; intro v5 w5 o5 g5 _; have G5 := Lib.hid (HO5.out.grown HB5.out HLE.out g5); have O5 := Lib.hid o5; clear o5 g5))
        go_roundw
        case rel =>
          refine ⟨k + 1, HLT.out, by rw [Nat.succ_mul, HJ.out]; simp, ?_, G5⟩
          have e1 : secsM sl (List.range (k + 1)) = secsM sl (List.range k) ++ [(cells S).toList] := by
            unfold secsM
            rw [List.range_succ, List.map_append]
            simp only [List.map_cons, List.map_nil, HSM.out]
          rw [e1]
          exact O5
        case measure => have h1 := HLT.out; have h2 := HJ.out; have h3 := hn; unfold tens at h1; simp [intOf]; omega
    · have hke : k = tens n := by omega
      have hge : ¬ ((k * 10 : Nat) : Int) < (n : Int) := by unfold tens at hke; omega
      have HE := Lib.hid hke
      have HR0 := HO.out.reads
      obtain ⟨j, hj⟩ : ∃ j, k * 10 = j := ⟨_, rfl⟩
      rw [hj] at hge ⊢
      clear hke hk hlt hj HR0
      go_wp2
      go_ret
      refine ⟨u3, rfl, ?_, HBL.out⟩
      rw [← HE.out]
      exact HO.out
end Go.Proofs.Ytgakidimipipeaa
