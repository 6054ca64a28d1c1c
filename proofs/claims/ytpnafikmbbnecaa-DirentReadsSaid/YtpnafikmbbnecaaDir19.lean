/- The document's Read of a block of entries. -/
import Derived.Test.YtpnafikmbbnecaaDir18
import Derived.Test.YtpnafikmbbnecaaHush
import Derived.StillTailTactics
namespace Go.Proofs.Ytpnafikmbbnecaa
open Go.RowKit Go.Sort
set_option linter.unusedVariables false
set_option linter.unusedSimpArgs false
set_option maxRecDepth 100000

theorem slice_ent (g : Nat) {j n : Nat} (hj : j < 4) (hn : n ≤ 29) (w : World) : (Instr.sliceAt 24 (.pointer (some ⟨g, 0, none⟩)) (some (.int .i64 (32 * (j : Int) + 3))) (some (.int .i64 (32 * (j : Int) + 3 + (n : Int)))) none).run Try.prog w = .ok (.slice (some ⟨g, 32 * j + 3, none⟩) n (128 - (32 * j + 3))) w := by
  have ht : Try.prog.underlying 24 = some (.array (Try.prog.arrayLen 24) (Try.prog.elem 24)) := by kernel_rfl
  have ha : Try.prog.arrayLen 24 = 128 := by kernel_rfl
  have he : Try.prog.elem 24 = 5 := by kernel_rfl
  have e1 : (32 * (j : Int) + 3).toNat = 32 * j + 3 := by omega
  have e2 : (32 * (j : Int) + 3 + (n : Int)).toNat = 32 * j + 3 + n := by omega
  rw [run_sliceAt_array_lh w _ _ ht .i64 .i64 _ _ (by omega) (by omega) (by rw [ha]; omega), ha, he, run_size_u8]
  simp only [Result.andThen_ok, slicedAt, e1, e2]
  rw [if_neg (by omega), show 32 * j + 3 + n - (32 * j + 3) = n by omega]
  simp [Addr.add]
  try omega
theorem zero_rblk (w : World) : (zeroValue 33).run Try.prog w = .ok (.agg (csE zeroE)) w := by kernel_rfl
theorem build_rblk0 (w : World) : (Instr.build 33 #[]).run Try.prog w = .ok (.agg (csE zeroE)) w := by kernel_rfl
theorem results_rblk {fn : Func} {p u : Tmp} (h : fn.results = #[.cell p 33, .tmp u]) (tmps : Array Value) (w : World) (g : Nat) (E : List Ent) (t : TypeId) (fr : Nat × Nat) (hp : tmps.getD p undef = .pointer (some ⟨g, 0, none⟩))
    (hg : w.heap[g]? = some (.cells (csE E) t fr)) (hl : E.length = 4) : (results fn tmps).run Try.prog w = .ok (.tuple #[.agg (csE E), tmps.getD u undef]) w := by
  obtain ⟨d, hd1, hd2⟩ := row_rblk
  rw [results_cell_tmp h, hp]
  simp only [asAddr, Sem.run_pure, Result.andThen_ok]
  rw [run_loadVar_row w g t 33 (csE E) fr d hg hd1 (by cases d <;> first | rfl | exact hd2) (by rw [size_rblk, csE_size, hl])]
  rfl
set_option maxHeartbeats 3200000 in
theorem rreadD_is (s : List Nat) (hs : s.length = 128) (hbs : Bytes s) (w : World) :
    Calls Try.prog 13 #[.agg (cells s)] w fun e w' => e = .returned (.tuple #[.agg (csE (readD s).1), .bool (decide ((readD s).2 = 0))]) ∧ Below w.heap.size w w' := by
  have hz := zero_rblk
  have hzf := zero_full
  have hbld := build_rblk0
  obtain ⟨d, hd1, hd2⟩ := row_rblk
  have b1 := below_box w (.cells (cells s) 24)
  have n1 := heap_alloc_new w (.cells (cells s) 24)
  obtain ⟨w1, hw1⟩ : ∃ w1, w.alloc (.cells (cells s) 24) = w1 := ⟨_, rfl⟩
  have hs1 : w1.heap.size = w.heap.size + 1 := by rw [← hw1]; simp
  rw [hw1] at b1 n1
  have b2 := below_box w1 (.cells (csE zeroE) 33)
  have n2 := heap_alloc_new w1 (.cells (csE zeroE) 33)
  have n1' := (b2.block w.heap.size (by omega)).trans n1
  have hb2 := below_next b1 b2
  obtain ⟨w2, hw2⟩ : ∃ w2, w1.alloc (.cells (csE zeroE) 33) = w2 := ⟨_, rfl⟩
  have hs2 : w2.heap.size = w.heap.size + 2 := by rw [← hw2]; simp [hs1]
  rw [hs1] at n2
  rw [hw2] at n2 n1' hb2 b2
  have b3 := below_box w2 (.cells (csE zeroE) 33)
  have n3 := heap_alloc_new w2 (.cells (csE zeroE) 33)
  have n13 := (b3.block w.heap.size (by omega)).trans n1'
  have n23 := (b3.block (w.heap.size + 1) (by omega)).trans n2
  have hb3 := below_next hb2 b3
  obtain ⟨w3, hw3⟩ : ∃ w3, w2.alloc (.cells (csE zeroE) 33) = w3 := ⟨_, rfl⟩
  have hs3 : w3.heap.size = w.heap.size + 3 := by rw [← hw3]; simp [hs2]
  rw [hs2] at n3
  rw [hw3] at n3 n13 n23 hb3
  have HB3 := Lib.hid hb3
  have HN1 := Lib.hid n13
  have HN2 := Lib.hid n23
  have HN3 := Lib.hid n3
  have HD1 := Lib.hid hd1
  have HS3 : Hid (w3.heap.size = w.heap.size + 3) := Lib.hid hs3
  have HLONG := Lib.hid (fun (j : Nat) (hj : j < 4) => readD_long (s := s) hs hj)
  have HGET := Lib.hid (fun (j : Nat) (hj : j < 4) => rdB_get (s := s) hs hj)
  have hE : (rdB s).length = 4 := by rw [rdB_pcs hs]; simp
  have HFIT := Lib.hid (outB_fits zeroE s hbs)
  obtain ⟨E, hEe⟩ : ∃ E, rdB s = E := ⟨_, rfl⟩
  have hfit2 : ∀ x ∈ E, x.2.size ≤ 400 := fun x hx => by
    rw [← hEe] at hx
    have := (HFIT.out x hx).2
    rw [Lib.size_eq]
    omega
  have HRD : Hid (readD s = if (writeD E).2 = 0 ∧ (writeD E).1 = s then (E, 0) else (zeroE, 21)) := by rw [← hEe]; exact Lib.hid rfl
  rw [hEe] at HGET hE
  have HE := Lib.hid hE
  have HWR := Lib.hid (fun W : World => rwriteD_is hE hfit2 W)
  have HK : Hid (((writeD E).2 = 0 ∧ E.all mayD = true) ∨ ((writeD E).2 = 1 ∧ E.all mayD = false)) := Lib.hid (by
    cases hall : E.all mayD with
    | true => exact .inl ⟨by rw [writeD_text hE hall], rfl⟩
    | false => have h : writeD E = (noughts, 1) := if_neg (by rw [hall]; decide); exact .inr ⟨by rw [h], rfl⟩)
  have hmk := writeD_length hE
  have HBY := Lib.hid hbs
  clear b1 n1 b2 n2 n1' hb2 b3 n3 n13 n23 hb3 hd1 hEe HFIT hfit2 hE hbs
  go_enter Try.func13, Try.ntmps13
  go_wp2
  clear hw1 hw2 hw3 hs1 hs2 hs3
  go_loopw [5, 6] (fun i _ wr => ∃ j : Nat, j ≤ 4 ∧ i = .int .i64 j ∧ Hid (wr.heap[w.heap.size + 2]? = some (.cells (csE (fillE E j)) 33 (0, 0))) ∧ Hid (Below (w.heap.size + 2) w3 wr)) (fun i _ _ => 4 - (intOf i).toNat)
  case atStart => exact ⟨0, by decide, rfl, HN3, Lib.hid (Below.refl _ _)⟩
  case round =>
    obtain ⟨j, hj, rfl, HN, HBL⟩ := hrel
    have hwrs : w.heap.size + 3 ≤ wr.heap.size := by have := HBL.out.size; have := HS3.out; omega
    have n1r := (HBL.out.block w.heap.size (by have := HS3.out; omega)).trans HN1.out
    have n2r := (HBL.out.block (w.heap.size + 1) (by have := HS3.out; omega)).trans HN2.out
    have HBW : Hid (Below w.heap.size w wr) := Lib.hid (HB3.out.trans (HBL.out.mono (by omega)))
    have hcs := block_cells hs n1r
    have HN2R := Lib.hid n2r
    have HN1R := Lib.hid n1r
    clear n1r n2r
    by_cases hlt : j < 4
    · have hjI : (0 : Int) ≤ (j : Int) ∧ (j : Int) < 4 := by omega
      have hcz : ∀ i, i < 128 → wr.cell? ⟨w.heap.size, i, none⟩ = some (.int .u8 ((s.getD i 0 : Nat) : Int)) := fun i hi => by
        have h := hcs i hi
        rw [Nat.zero_add] at h
        exact h
      have c0 := hcz (32 * j) (by omega)
      have c1 := hcz (32 * j + 1) (by omega)
      have c2 := hcz (32 * j + 2) (by omega)
      have hL := HLONG.out j hlt
      have hG := HGET.out j hlt
      have hn256 : s.getD (32 * j + 2) 0 < 256 := by
        refine HBY.out _ ?_
        rw [List.getD_eq_getElem?_getD, List.getElem?_eq_getElem (by omega)]
        exact List.getElem_mem _
      have ha256 : s.getD (32 * j) 0 < 256 := by
        refine HBY.out _ ?_
        rw [List.getD_eq_getElem?_getD, List.getElem?_eq_getElem (by omega)]
        exact List.getElem_mem _
      have hb256 : s.getD (32 * j + 1) 0 < 256 := by
        refine HBY.out _ ?_
        rw [List.getD_eq_getElem?_getD, List.getElem?_eq_getElem (by omega)]
        exact List.getElem_mem _
      unfold entD at hG
      obtain ⟨n, hn⟩ : ∃ n, s.getD (32 * j + 2) 0 = n := ⟨_, rfl⟩
      obtain ⟨a, ha⟩ : ∃ n, s.getD (32 * j) 0 = n := ⟨_, rfl⟩
      obtain ⟨b, hb⟩ : ∃ n, s.getD (32 * j + 1) 0 = n := ⟨_, rfl⟩
      rw [hn] at c2 hL hG hn256
      rw [ha] at c0 hG ha256
      rw [hb] at c1 hG hb256
      clear hn ha hb
      have hwn : IntKind.i64.wrap (n : Int) = n := IntWalk.i64_in _ (by omega)
      have hwa : IntKind.i64.wrap (a : Int) = a := IntWalk.i64_in _ (by omega)
      have hwb : IntKind.i64.wrap (b : Int) = b := IntWalk.i64_in _ (by omega)
      have hi2 : (0 : Int) ≤ 32 * (j : Int) + 2 ∧ 32 * (j : Int) + 2 < 128 := by omega
      have ht2 : (32 * (j : Int) + 2).toNat = 32 * j + 2 := by omega
      by_cases hbig : 29 < n
      · have hbI : (29 : Int) < (n : Int) := by omega
        have HF := Lib.hid (hL hbig)
        have hd9 := setRow_heap wr (w.heap.size + 1) _ (csE zeroE) _ _ HN2R.out
        have hb9 := below_setRow (g := w.heap.size + 1) HBW.out (by omega) (csE zeroE)
        have HD9 := Lib.hid hd9
        have HB9 := Lib.hid hb9
        have HSX : Hid ((Try.prog.info? 33).map (·.size) = some (csE zeroE).size) := Lib.hid (by rw [csE_size]; exact size_rblk)
        have HNX := Lib.hid (csE_one zeroE)
        clear hL hG c0 c1 hcs hcz hbig hd9 hb9
        go_wp2_with (refine wpList_store_row rfl 33 _ _ rfl (w.heap.size + 1) (csE zeroE) rfl rfl _ _ HN2R.out HSX.out rfl HNX.out ?_)
        refine bodyPost_ret (results_rblk rfl _ _ (w.heap.size + 1) zeroE _ _ rfl HD9.out rfl) rfl ?_
        exact ⟨by rw [HF.out]; rfl, HB9.out⟩
      · have hbI : ¬ (29 : Int) < (n : Int) := by omega
        have hn29 : n ≤ 29 := by omega
        have ex := hG hn29
        have hsl := slice_ent w.heap.size hlt hn29 wr.drew
        have hcv := run_convert_bytes_arg (P := Try.prog) wr.drew 22 5 Try.underlying22 Try.underlying5 w.heap.size (32 * j + 3) n (128 - (32 * j + 3)) (((s.drop (32 * j + 3)).take n).map fun n : Nat => (n : Int)) (by rw [List.length_map, List.length_take, List.length_drop]; omega) (fun i hi => by
          have h := hcs (32 * j + 3 + i) (by omega)
          rw [Nat.zero_add] at h
          show wr.cell? _ = _
          rw [h]
          have e : (((s.drop (32 * j + 3)).take n).map fun n : Nat => (n : Int)).getD i 0 = ((s.getD (32 * j + 3 + i) 0 : Nat) : Int) := by
            rw [List.getD_eq_getElem?_getD, List.getElem?_map, List.getElem?_take, if_pos hi, List.getElem?_drop, List.getD_eq_getElem?_getD, List.getElem?_eq_getElem (by omega)]
            rfl
          rw [e]
          rfl) 9 Try.underlying9
        obtain ⟨st, hst⟩ : ∃ x, strOfNums (((s.drop (32 * j + 3)).take n).map fun n : Nat => (n : Int)) = x := ⟨_, rfl⟩
        rw [hst] at hcv ex
        obtain ⟨cc, hcc⟩ : ∃ c, 128 - (32 * j + 3) = c := ⟨_, rfl⟩
        rw [hcc] at hcv hsl
        obtain ⟨q1, q2⟩ := fillE_cells HE.out hlt
        have HND : wr.drew.heap[w.heap.size + 2]? = some (.cells (csE (fillE E j)) 33 (0, 0)) := HN.out
        have hbd : Below wr.heap.size wr wr.drew := ⟨rfl, rfl, rfl, Nat.le_refl _, fun _ _ => rfl⟩
        have HBD := HBL.out.trans (hbd.mono (show w.heap.size + 2 ≤ wr.heap.size by omega))
        obtain ⟨wd, hwd⟩ : ∃ x, wr.drew = x := ⟨_, rfl⟩
        rw [hwd] at HND HBD
        have HWD := Lib.hid hwd
        clear hwd
        have k0 : wd.cell? ⟨w.heap.size + 2, j * 2, none⟩ = some (.int .i64 0) := (cell_of_row HND _).trans q1
        have f0 : wd.frozen? ⟨w.heap.size + 2, j * 2, none⟩ = false := frozen_of_row _ _ _ _ _ HND
        have n5 := row_stored (i := j * 2) (u := .int .i64 ((a : Int) + 256 * (b : Int))) HND
        have k1 : (wd.setCell ⟨w.heap.size + 2, j * 2, none⟩ (.int .i64 ((a : Int) + 256 * (b : Int)))).cell? ⟨w.heap.size + 2, j * 2 + 1, none⟩ = some (.string ByteArray.empty) := by
          rw [cell_of_row n5, Array.getElem?_setIfInBounds_ne (by omega)]
          exact q2
        have f1 : (wd.setCell ⟨w.heap.size + 2, j * 2, none⟩ (.int .i64 ((a : Int) + 256 * (b : Int)))).frozen? ⟨w.heap.size + 2, j * 2 + 1, none⟩ = false := frozen_of_row _ _ _ _ _ n5
        have n6 := row_stored (i := j * 2 + 1) (u := .string st) n5
        rw [fillE_set HE.out ex] at n6
        have HB6 : Hid (Below (w.heap.size + 2) w3 ((wd.setCell ⟨w.heap.size + 2, j * 2, none⟩ (.int .i64 ((a : Int) + 256 * (b : Int)))).setCell ⟨w.heap.size + 2, j * 2 + 1, none⟩ (.string st))) := Lib.hid ((HBD.setCell (Nat.le_refl _) _).setCell (Nat.le_refl _) _)
        have HN6 := Lib.hid n6
        have d0 : wr.drew.cell? ⟨w.heap.size, 32 * j, none⟩ = some (.int .u8 (a : Int)) := c0
        have d1 : wr.drew.cell? ⟨w.heap.size, 32 * j + 1, none⟩ = some (.int .u8 (b : Int)) := c1
        have ht0 : (32 * (j : Int)).toNat = 32 * j := by omega
        have ht1 : (32 * (j : Int) + 1).toNat = 32 * j + 1 := by omega
        have hv0 : IntKind.i64.wrap (32 * (j : Int)) = 32 * (j : Int) := IntWalk.i64_in _ (by omega)
        have hv1 : IntKind.i64.wrap (32 * (j : Int) + 1) = 32 * (j : Int) + 1 := IntWalk.i64_in _ (by omega)
        have hv3 : IntKind.i64.wrap (32 * (j : Int) + 3) = 32 * (j : Int) + 3 := IntWalk.i64_in _ (by omega)
        have hvn : IntKind.i64.wrap (32 * (j : Int) + 3 + (n : Int)) = 32 * (j : Int) + 3 + (n : Int) := IntWalk.i64_in _ (by omega)
        have hvb : IntKind.i64.wrap (256 * (b : Int)) = 256 * (b : Int) := IntWalk.i64_in _ (by omega)
        have hvab : IntKind.i64.wrap ((a : Int) + 256 * (b : Int)) = (a : Int) + 256 * (b : Int) := IntWalk.i64_in _ (by omega)
        have hi0 : (0 : Int) ≤ 32 * (j : Int) ∧ 32 * (j : Int) < 128 := by omega
        have hi1 : (0 : Int) ≤ 32 * (j : Int) + 1 ∧ 32 * (j : Int) + 1 < 128 := by omega
        clear hL hG hcs hcz hbig ex hst n5 n6 q1 q2 HND HBD hbd
        go_wp2_with fail
        refine wp_region_still_tail 26 (by kernel_rfl) (by kernel_rfl) ?_
        simp only [List.take_succ_cons, List.take_zero, List.drop_succ_cons, List.drop_zero]
        repeat still_step
        refine wpStill_nil ?_
        change wpList _ _ _ _ _ wr.drew
        rw [HWD.out]
        clear hsl hcv d0 d1 HWD
        go_wp2
        go_roundw
        case rel => exact ⟨j + 1, by omega, by go_num, HN6, HB6⟩
        case measure => simp [intOf]; omega
    · obtain rfl : j = 4 := by omega
      have hn := HN.out
      rw [fillE_full HE.out] at hn
      clear HN
      have HSI : Hid ((Try.prog.info? 33).map (·.size) = some (E.flatMap entV).length) := Lib.hid (by rw [entV_len, HE.out]; exact size_rblk)
      have HSX : Hid ((Try.prog.info? 33).map (·.size) = some (csE E).size) := Lib.hid (by rw [csE_size, HE.out]; exact size_rblk)
      have HOX : Hid ((csE zeroE).size = (csE E).size) := Lib.hid (by rw [csE_size, csE_size, HE.out]; rfl)
      have HNX := Lib.hid (csE_one E)
      have HSZ : Hid ((Try.prog.info? 33).map (·.size) = some (csE zeroE).size) := Lib.hid (by rw [csE_size]; exact size_rblk)
      have HNZ := Lib.hid (csE_one zeroE)
      have HRR : Hid (wr.rangeAt (w.heap.size + 2) 0 (E.flatMap entV)) := Lib.hid (row_range hn)
      obtain ⟨mk, hmke⟩ : ∃ x, (writeD E).1 = x := ⟨_, rfl⟩
      obtain ⟨er, here⟩ : ∃ x, (writeD E).2 = x := ⟨_, rfl⟩
      obtain ⟨ok, hoke⟩ : ∃ x, E.all mayD = x := ⟨_, rfl⟩
      rw [hmke, hoke] at HWR
      rw [hmke, here] at HRD
      rw [here, hoke] at HK
      rw [hmke] at hmk
      have HMK := Lib.hid hmk
      clear hmke here hoke hcs hj
      go_wp2_with (refine wpList_load_mid rfl 33 _ rfl (w.heap.size + 2) 0 rfl (E.flatMap entV) d HRR.out HD1.out hd2 HSI.out ?_)
      refine (HWR.out wr).mono ?_
      rintro e w5 ⟨rfl, b⟩
      have n1 := (b.block w.heap.size (by omega)).trans HN1R.out
      have n2 := (b.block (w.heap.size + 1) (by omega)).trans HN2R.out
      have nl := (b.block (w.heap.size + 2) (by omega)).trans hn
      have HB5 : Hid (Below w.heap.size w w5) := Lib.hid (HBW.out.trans (b.mono HBW.out.size))
      have hsz5 := b.size
      clear b hn HRR HN1R HN2R
      have nz := heap_alloc_new w5 (.cells (cells noughts) 24)
      have bb := below_box w5 (.cells (cells mk) 24)
      have nm := heap_alloc_new w5 (.cells (cells mk) 24)
      have ew := World.setRow_alloc_new w5 (cells noughts) (cells mk) 24
      obtain ⟨w6, hw6⟩ : ∃ wx, w5.alloc (.cells (cells mk) 24) = wx := ⟨_, rfl⟩
      rw [hw6] at bb nm ew
      have hs6 : w6.heap.size = w5.heap.size + 1 := by rw [← hw6]; simp
      have n1' := (bb.block w.heap.size (by omega)).trans n1
      have n2' := (bb.block (w.heap.size + 1) (by omega)).trans n2
      have nl' := (bb.block (w.heap.size + 2) (by omega)).trans nl
      have HB6 : Hid (Below w.heap.size w w6) := Lib.hid (HB5.out.trans (bb.mono HB5.out.size))
      obtain ⟨m6, hm6⟩ : ∃ m, w5.heap.size = m := ⟨_, rfl⟩
      rw [hm6] at nz nm ew hs6
      have HC1 := Lib.hid (block_cells hs n1')
      have HCM := Lib.hid (block_cells hmk nm)
      have HRL : Hid (w6.rangeAt (w.heap.size + 2) 0 (E.flatMap entV)) := Lib.hid (row_range nl')
      have HD9 := Lib.hid (fun cs => setRow_heap w6 (w.heap.size + 1) _ cs _ _ n2')
      have HB9 := Lib.hid (fun cs => below_setRow (g := w.heap.size + 1) HB6.out (by omega) cs)
      have HN2' := Lib.hid n2'
      have HNZ6 := Lib.hid nz
      have hneq := run_neq_full mk s hmk hs
      clear n1 n2 nl bb n1' n2' nl' nm nz hw6
      rcases HK.out with ⟨rfl, rfl⟩ | ⟨rfl, rfl⟩
      · by_cases hms : mk = s
        · have HF : Hid (readD s = (E, 0)) := Lib.hid (HRD.out.trans (if_pos ⟨rfl, hms⟩))
          rw [decide_eq_true hms, Bool.not_true] at hneq
          clear hms
          go_wp2_with (first
            | (refine wpList_store_full rfl _ _ rfl m6 mk rfl rfl HMK.out _ _ HNZ6.out rfl ?_; rw [ew])
            | refine wpList_load_full_want rfl _ rfl m6 0 mk rfl HMK.out HCM.out ?_
            | refine wpList_load_full_want rfl _ rfl w.heap.size 0 s rfl hs HC1.out ?_
            | refine wpList_load_mid rfl 33 _ rfl (w.heap.size + 2) 0 rfl (E.flatMap entV) d HRL.out HD1.out hd2 HSI.out ?_
            | refine wpList_store_row rfl 33 _ _ rfl (w.heap.size + 1) (csE E) rfl rfl _ _ HN2'.out HSX.out HOX.out HNX.out ?_)
          refine bodyPost_ret (results_rblk rfl _ _ (w.heap.size + 1) E _ _ rfl (HD9.out _) HE.out) rfl ?_
          exact ⟨by rw [HF.out]; rfl, HB9.out _⟩
        · have HF : Hid (readD s = (zeroE, 21)) := Lib.hid (HRD.out.trans (if_neg (fun h => hms h.2)))
          rw [decide_eq_false hms, Bool.not_false] at hneq
          clear hms
          go_wp2_with (first
            | (refine wpList_store_full rfl _ _ rfl m6 mk rfl rfl HMK.out _ _ HNZ6.out rfl ?_; rw [ew])
            | refine wpList_load_full_want rfl _ rfl m6 0 mk rfl HMK.out HCM.out ?_
            | refine wpList_load_full_want rfl _ rfl w.heap.size 0 s rfl hs HC1.out ?_
            | refine wpList_store_row rfl 33 _ _ rfl (w.heap.size + 1) (csE zeroE) rfl rfl _ _ HN2'.out HSZ.out rfl HNZ.out ?_)
          refine bodyPost_ret (results_rblk rfl _ _ (w.heap.size + 1) zeroE _ _ rfl (HD9.out _) rfl) rfl ?_
          exact ⟨by rw [HF.out]; rfl, HB9.out _⟩
      · have HF : Hid (readD s = (zeroE, 21)) := Lib.hid (HRD.out.trans (if_neg (fun h => by cases h.1)))
        go_wp2_with (first
          | (refine wpList_store_full rfl _ _ rfl m6 mk rfl rfl HMK.out _ _ HNZ6.out rfl ?_; rw [ew])
          | refine wpList_store_row rfl 33 _ _ rfl (w.heap.size + 1) (csE zeroE) rfl rfl _ _ HN2'.out HSZ.out rfl HNZ.out ?_)
        refine bodyPost_ret (results_rblk rfl _ _ (w.heap.size + 1) zeroE _ _ rfl (HD9.out _) rfl) rfl ?_
        exact ⟨by rw [HF.out]; rfl, HB9.out _⟩
end Go.Proofs.Ytpnafikmbbnecaa
