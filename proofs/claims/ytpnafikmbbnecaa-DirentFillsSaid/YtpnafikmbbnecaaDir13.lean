/- The document's Write of a block of entries. -/
import Derived.Test.YtpnafikmbbnecaaDir12
import Derived.Lib.ConvBytes
namespace Go.Proofs.Ytpnafikmbbnecaa
open Go.RowKit Go.Sort
set_option linter.unusedVariables false
set_option linter.unusedSimpArgs false
set_option maxRecDepth 100000

theorem below_bytesWorld (w : World) (e : TypeId) (s : ByteArray) : Below w.heap.size w (Lib.bytesWorld w e s) :=
  ⟨rfl, rfl, rfl, by rw [Lib.bytesWorld_size]; omega, fun j hj => Lib.bytesWorld_at_old w e s j hj⟩
theorem reads_bytesWorld (w : World) (e : TypeId) (s : ByteArray) : Reads (Lib.bytesWorld w e s) (some ⟨w.heap.size, 0, none⟩) s.size (bytesW s) := by
  refine ⟨by rw [bytesW_length]; exact Array.length_toList, bytesW_bytes s, .inr ⟨w.heap.size, 0, rfl, by rw [Lib.bytesWorld_size]; omega, fun i hi => ?_⟩⟩
  rw [Nat.zero_add, Lib.bytesWorld_cell w e s i hi]
  unfold bytesW
  rw [List.getD_eq_getElem?_getD, List.getD_eq_getElem?_getD, List.getElem?_map]
  cases s.data.toList[i]? <;> rfl
def lenW : Value → Nat
  | .slice _ n _ => n
  | _ => 0
set_option maxHeartbeats 3200000 in
theorem rwriteD_is {E : List Ent} (hE : E.length = 4) (hz : ∀ x ∈ E, x.2.size ≤ 400) (w : World) :
    Calls Try.prog 55 #[.agg (csE E)] w fun e w' => e = .returned (.tuple #[.agg (cells (writeD E).1), .bool (E.all mayD)]) ∧ Below w.heap.size w w' := by
  have hzf := zero_full
  have hbld := build_full
  obtain ⟨d, hd1, hd2⟩ := row_rblk
  have hsi : (Try.prog.info? 33).map (·.size) = some (E.flatMap entV).length := by rw [entV_len, hE]; exact size_rblk
  have b1 := below_box w (.cells (csE E) 33)
  have n1 := heap_alloc_new w (.cells (csE E) 33)
  obtain ⟨w1, hw1⟩ : ∃ w1, w.alloc (.cells (csE E) 33) = w1 := ⟨_, rfl⟩
  have hs1 : w1.heap.size = w.heap.size + 1 := by rw [← hw1]; simp
  rw [hw1] at b1 n1
  have b2 := below_box w1 (.cells (cells noughts) 24)
  have n2 := heap_alloc_new w1 (.cells (cells noughts) 24)
  have n1' := (b2.block w.heap.size (by omega)).trans n1
  have HB := Lib.hid (below_next b1 b2)
  rw [hs1] at n2
  obtain ⟨w2, hw2⟩ : ∃ w2, w1.alloc (.cells (cells noughts) 24) = w2 := ⟨_, rfl⟩
  rw [hw2] at n2 n1' HB
  have hs2 : w2.heap.size = w.heap.size + 2 := by rw [← hw2]; simp [hs1]
  have HR1 : Hid (w2.rangeAt w.heap.size 0 (E.flatMap entV)) := Lib.hid (row_range n1')
  have HN2 := Lib.hid n2
  have HN1 := Lib.hid n1'
  have HE := Lib.hid hE
  have HZ := Lib.hid hz
  have HD1 := Lib.hid hd1
  have HSI := Lib.hid hsi
  have HS2 : Hid (w2.heap.size = w.heap.size + 2) := Lib.hid hs2
  have HMAY := Lib.hid (rmay_is hE hz w2)
  clear b1 n1 b2 n2 n1' hE hz hd1 hsi
  cases hall : E.all mayD with
  | false =>
    have HF : Hid (writeD E = (noughts, 1)) := Lib.hid (if_neg (by rw [hall]; decide))
    rw [hall] at HMAY
    clear hall
    go_enter Try.func55, Try.ntmps55
    go_wp2_with (refine wpList_load_mid rfl 33 _ rfl w.heap.size 0 rfl (E.flatMap entV) d HR1.out HD1.out hd2 HSI.out ?_)
    refine HMAY.out.mono ?_
    rintro e w3 ⟨rfl, b3⟩
    have n3 := (b3.block (w.heap.size + 1) (by have := HS2.out; omega)).trans HN2.out
    have HB3 : Hid (Below w.heap.size w w3) := Lib.hid (HB.out.trans (b3.mono HB.out.size))
    have hd9 := setRow_heap w3 (w.heap.size + 1) _ (cells noughts) _ _ n3
    have hb9 := below_setRow (g := w.heap.size + 1) HB3.out (by omega) (cells noughts)
    clear b3 hw1 hw2 hs1 hs2
    go_wp2_with (refine wpList_store_full rfl _ _ rfl (w.heap.size + 1) noughts rfl rfl rfl _ _ n3 rfl ?_)
    refine bodyPost_ret (results_full_tmp rfl _ _ (w.heap.size + 1) noughts _ _ rfl hd9 rfl) rfl ?_
    exact ⟨by rw [HF.out]; rfl, hb9⟩
  | true =>
    have HF := Lib.hid (writeD_text HE.out hall)
    have HTX := Lib.hid (textW_facts HE.out hall)
    have HALL := Lib.hid hall
    rw [hall] at HMAY
    clear hall
    go_enter Try.func55, Try.ntmps55
    go_wp2_with (refine wpList_load_mid rfl 33 _ rfl w.heap.size 0 rfl (E.flatMap entV) d HR1.out HD1.out hd2 HSI.out ?_)
    refine HMAY.out.mono ?_
    rintro e w3 ⟨rfl, b3⟩
    have HS3 : Hid (w.heap.size + 2 ≤ w3.heap.size) := Lib.hid (by have := b3.size; have := HS2.out; omega)
    have n3 := (b3.block (w.heap.size + 1) (by have := HS2.out; omega)).trans HN2.out
    have n31 := (b3.block w.heap.size (by have := HS2.out; omega)).trans HN1.out
    have HN3 := Lib.hid n3
    have HN31 := Lib.hid n31
    have HB3 : Hid (Below w.heap.size w w3) := Lib.hid (HB.out.trans (b3.mono HB.out.size))
    clear b3 hw1 hw2 hs1 hs2 n3 n31
    go_wp2_with fail
    go_loopw [4, 5] (fun v i wr => ∃ j : Nat, j ≤ 4 ∧ i = .int .i64 j ∧ Owns w3.heap.size wr v (textW (E.take j)) ∧ Hid (Below w3.heap.size w3 wr)) (fun _ i _ => 4 - (intOf i).toNat)
    case atStart => exact ⟨0, by decide, rfl, owns_nil _ _, Lib.hid (Below.refl _ _)⟩
    case round =>
      obtain ⟨j, hj, rfl, ho, HBW⟩ := hrel
      have hbs := HBW.out.size
      by_cases hlt : j < 4
      · have hjI : (0 : Int) ≤ (j : Int) ∧ (j : Int) < 4 := by omega
        obtain ⟨⟨z, s⟩, ex⟩ : ∃ x, E[j]? = some x := ⟨_, List.getElem?_eq_getElem (by rw [HE.out]; exact hlt)⟩
        have hm : mayD (z, s) = true := List.all_eq_true.1 HALL.out (z, s) (List.mem_of_getElem? ex)
        obtain ⟨m1, m2, m3⟩ := mayD_facts hm
        dsimp only at m1 m2 m3
        obtain ⟨n, rfl⟩ := Int.eq_ofNat_of_zero_le m1
        obtain ⟨g1, g2⟩ := csE_get ex
        have HC : Hid (∀ wx : World, Below w3.heap.size w3 wx → wx.cell? ⟨w.heap.size, j * 2, none⟩ = some (.int .i64 (n : Int)) ∧ wx.cell? ⟨w.heap.size, j * 2 + 1, none⟩ = some (.string s)) := Lib.hid (fun wx hb => by
          have n9 := (hb.block w.heap.size (by have := HS3.out; omega)).trans HN31.out
          exact ⟨(cell_of_row n9 _).trans g1, (cell_of_row n9 _).trans g2⟩)
        have c0 := (HC.out wr HBW.out).1
        have hTL : (textW (E.take j)).length = 32 * j := by
          rw [textW_length _ fun x hx => by
            have := (mayD_facts (List.all_eq_true.1 HALL.out x (List.mem_of_mem_take hx))).2.2
            omega]
          rw [List.length_take, HE.out]; omega
        have HTL := Lib.hid hTL
        have HTN : Hid (textW (E.take (j + 1)) = textW (E.take j) ++ (low n 2 ++ [s.data.toList.length] ++ bytesW s) ++ List.replicate (29 - s.data.toList.length) 0) := Lib.hid (by
          rw [List.take_add_one, ex]
          show textW (E.take j ++ [((n : Int), s)]) = _
          rw [textW_snoc]
          unfold pieceW headW
          rw [← List.append_assoc]
          rfl)
        clear g1 g2 ex hm m1
        have hn200 : n ≤ 200 := by omega
        have hsz : s.data.toList.length = s.size := Array.length_toList
        rw [hsz] at HTN m3
        have hsm : (s.size : Int) % 256 = s.size := by omega
        clear hsz
        have hmod : (n : Int) % 18446744073709551616 = n := by omega
        generalize textW (E.take j) = T at *
        go_wp2_with fail
        refine (low_any n 2 wr (by decide) (by omega)).mono ?_
        rintro e w4 ⟨v4, rfl, o4, b4⟩
        have k4 := HBW.out.trans (b4.mono hbs)
        have p4 := ho.below b4
        obtain ⟨a4, e4, rfl, r4, _, _⟩ := o4.reads
        rw [low_length] at r4 ⊢
        have c1 := (HC.out _ k4).2
        clear b4 o4 ho c0
        have hL2 : (T ++ low n 2).length = 32 * j + 2 := by rw [List.length_append, low_length, hTL]
        have HL3 : Hid ((T ++ low n 2 ++ [s.size]).length = 32 * j + 3) := Lib.hid (by rw [List.length_append, hL2]; rfl)
        go_wp2_with (at_builtin; first
          | (refine wpList_append_bytes rfl _ _ rfl w3.heap.size _ T rfl p4 _ _ _ rfl (low n 2) r4 (by omega) k4.size ?_; intro v5 w5 o5 g5; have k5 := k4.grown g5 k4.size (fun j hj => p4.lt j hj); have c2 := (HC.out _ k5).2; have k6 := k5.alloc k5.size (.cells #[byteV s.size] 5); have p6 := o5.alloc (.cells #[byteV s.size] 5); have r6 := reads_one w5 s.size (by omega); obtain ⟨a6, e6, rfl, _, hl6, hc6⟩ := p6.reads; rw [hL2] at p6 hl6; clear g5 r4 p4 o5 c1)
          | (refine wpList_append_bytes rfl _ _ rfl w3.heap.size _ (T ++ low n 2) rfl p6 _ _ _ rfl [s.size] r6 (by omega) k6.size ?_; intro v7 w7 o7 g7; have k7 := k6.grown g7 k6.size (fun j hj => p6.lt j hj); have c3 := (HC.out _ k7).2; have hcv := Lib.run_convert_string_bytes (P := Try.prog) w7 9 22 5 s Try.underlying9 Try.underlying22 Try.underlying5; have b8 := below_bytesWorld w7 5 s; have r8 := reads_bytesWorld w7 5 s; obtain ⟨w8, hw8⟩ : ∃ x, Lib.bytesWorld w7 5 s = x := ⟨_, rfl⟩; rw [hw8] at hcv b8 r8; obtain ⟨cp8, hcp8⟩ : ∃ x, grownCap w7 s.size 0 5 = x := ⟨_, rfl⟩; rw [hcp8] at hcv; have k8 := k7.trans (b8.mono k7.size); have p8 := o7.below b8; clear g7 r6 p6 k6 c2 hw8 hcp8 b8 o7)
          | (refine wpList_append_bytes rfl _ _ rfl w3.heap.size _ (T ++ low n 2 ++ [s.size]) rfl p8 _ _ _ rfl (bytesW s) r8 (by rw [HL3.out]; omega) k8.size ?_; intro v9 w9 o9 g9; have k9 := Lib.hid (k8.grown g9 k8.size (fun j hj => p8.lt j hj)); clear g9 r8 p8 k8 hcv c3))
        clear hmod
        have HL9 : Hid ((T ++ low n 2 ++ [s.size] ++ bytesW s).length = 32 * j + 3 + s.size) := Lib.hid (by rw [List.length_append, HL3.out, bytesW_length]; exact congrArg _ Array.length_toList)
        have HTN9 : Hid (textW (E.take (j + 1)) = (T ++ low n 2 ++ [s.size] ++ bytesW s) ++ List.replicate (29 - s.size) 0) := Lib.hid (by rw [HTN.out, ← List.append_assoc, ← List.append_assoc])
        clear HTN HL3 hL2
        generalize T ++ low n 2 ++ [s.size] ++ bytesW s = H at *
        go_loopw [4] (fun v wx => ∃ m : Nat, s.size + m ≤ 29 ∧ Owns w3.heap.size wx v (H ++ List.replicate m 0) ∧ Hid (Below w3.heap.size w3 wx)) (fun v _ => 200 - lenW v)
        case atStart => exact ⟨0, by omega, by simpa using o9, k9⟩
        case round =>
          obtain ⟨m, hm, ho, HBX⟩ := hrel
          clear o9 k9
          have hbs2 := HBX.out.size
          have hML : (H ++ List.replicate m 0).length = 32 * j + 3 + s.size + m := by rw [List.length_append, HL9.out, List.length_replicate]
          have HN : Hid (H ++ List.replicate m 0 ++ [0] = H ++ List.replicate (m + 1) 0) := by show _ = _; rw [List.replicate_succ', List.append_assoc H]
          by_cases hlt2 : s.size + m < 29
          · generalize H ++ List.replicate m 0 = M at *
            have hcmp : (M.length : Int) < 32 * ((j : Int) + 1) := by omega
            have hM200 : M.length ≤ 200 := by omega
            have HML := Lib.hid hML
            have ho' := ho.alloc (.cells #[byteV 0] 5)
            obtain ⟨a1, c1, rfl, _, hlc1, hcm1⟩ := ho.reads
            have hr1 := reads_one wr 0 (by decide)
            have hbx := HBX.out.alloc hbs2 (.cells #[byteV 0] 5)
            have HL2 : Hid ((H ++ List.replicate (m + 1) 0).length = M.length + 1) := Lib.hid (by rw [← HN.out, List.length_append]; rfl)
            clear ho hML
            go_wp2_with (at_builtin; refine wpList_append_bytes rfl _ _ rfl w3.heap.size (.slice a1 M.length c1) M rfl ho' _ _ _ rfl [0] hr1 (by omega) hbx.size ?_; intro v' w' o2 g2; have hb2 := Lib.hid (hbx.grown g2 hbx.size (fun j hj => ho'.lt j hj)); rw [HN.out] at o2; obtain ⟨a2, c2, rfl, _, _, _⟩ := o2.reads; rw [HL2.out] at o2 ⊢; clear g2 ho' hr1 hbx)
            go_roundw
            case rel => exact ⟨m + 1, by omega, by rw [← HL2.out] at o2 ⊢; exact o2, hb2⟩
            case measure =>
              show 200 - (M.length + 1) < 200 - M.length
              omega
          · have em : m = 29 - s.size := by omega
            have HTN8 : Hid (H ++ List.replicate m 0 = textW (E.take (j + 1))) := Lib.hid (by rw [HTN9.out, em])
            clear HTN9 HN em
            generalize H ++ List.replicate m 0 = M at *
            have hcmp : ¬ (M.length : Int) < 32 * ((j : Int) + 1) := by omega
            have HML := Lib.hid hML
            clear hML
            obtain ⟨a1, c1, rfl, _, hlc1, hcm1⟩ := ho.reads
            go_wp2
            go_roundw
            case rel => exact ⟨j + 1, by omega, by go_num, by rw [← HTN8.out]; exact ho, HBX⟩
            case measure => simp [intOf]; omega
      · obtain rfl : j = 4 := by omega
        have et : E.take 4 = E := List.take_of_length_le (by rw [HE.out]; decide)
        rw [et] at ho
        obtain ⟨a1, c1, rfl, hrd, hlc1, hcm1⟩ := ho.reads
        have h128 := HTX.out.1
        rw [h128] at hrd hlc1 ⊢
        have HFU := full_any a1 128 c1 (textW E) wr hrd (by decide)
        rw [HTX.out.2.2] at HFU
        have HFUL := Lib.hid HFU
        have n3 := (HBW.out.block (w.heap.size + 1) (by have := HS3.out; omega)).trans HN3.out
        have HN4 := Lib.hid n3
        have HBR : Hid (Below w.heap.size w wr) := Lib.hid (HB3.out.trans (HBW.out.mono (by have := HS3.out; omega)))
        clear HFU ho hrd n3 et
        have HH := Lib.hid h128
        clear h128
        go_wp2_with fail
        refine HFUL.out.mono ?_
        rintro e w4 ⟨rfl, b4⟩
        have n4 := (b4.block (w.heap.size + 1) (by have := HS3.out; omega)).trans HN4.out
        have HB4 : Hid (Below w.heap.size w w4) := Lib.hid (HBR.out.trans (b4.mono HBR.out.size))
        have hd9 := setRow_heap w4 (w.heap.size + 1) _ (cells (textW E)) _ _ n4
        have hb9 := below_setRow (g := w.heap.size + 1) HB4.out (by omega) (cells (textW E))
        clear b4
        go_wp2_with (refine wpList_store_full rfl _ _ rfl (w.heap.size + 1) (textW E) rfl rfl HH.out _ _ n4 rfl ?_)
        refine bodyPost_ret (results_full_tmp rfl _ _ (w.heap.size + 1) (textW E) _ _ rfl hd9 HH.out) rfl ?_
        exact ⟨by rw [HF.out]; rfl, hb9⟩
end Go.Proofs.Ytpnafikmbbnecaa
