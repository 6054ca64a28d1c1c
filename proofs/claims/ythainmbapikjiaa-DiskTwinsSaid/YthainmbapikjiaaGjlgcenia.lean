/- The document's disk: a sector read. -/
import Derived.Test.YthainmbapikjiaaGfmmdidnb
import Derived.Test.YthainmbapikjiaaGheienjho
import Derived.Test.YthainmbapikjiaaGlmlihdbh
namespace Go.Proofs.Ythainmbapikjiaa
open Go.RowKit Go.Sort
set_option linter.unusedVariables false
set_option linter.unusedSimpArgs false
set_option maxRecDepth 100000

theorem readL_len : ∀ (C : List (Nat × List Nat)) (a : Nat) (S : List Nat), (∀ p ∈ C, p.2.length = 128) → S.length = 128 → (readL C a S).length = 128
  | [], _, _, _, h => h
  | p :: C, a, S, hC, h => by
    show (readL C a (if p.1 = a then p.2 else S)).length = 128
    refine readL_len C a _ (fun q hq => hC q (List.mem_cons_of_mem _ hq)) ?_
    split
    · exact hC p (List.mem_cons_self ..)
    · exact h
theorem readL_take {C : List (Nat × List Nat)} {k : Nat} {p : Nat × List Nat} (h : C[k]? = some p) (a : Nat) (S : List Nat) : readL (C.take (k + 1)) a S = if p.1 = a then p.2 else readL (C.take k) a S := by
  rw [List.take_add_one, h]
  exact readL_snoc _ _ _ _
theorem row_cells {w : World} {g off : Nat} {s : List Nat} (h : w.rangeAt g off (s.map byteV)) (hs : s.length = 128) : ∀ j, j < 128 → w.cell? ⟨g, off + j, none⟩ = some (byteV (s.getD j 0)) := fun j hj =>
  h j _ (by rw [List.getElem?_map, List.getElem?_eq_getElem (show j < s.length by omega)]; simp [List.getD, List.getElem?_eq_getElem (show j < s.length by omega)])
theorem mayR_ref (D : DiskD) (at_ : Int) : mayR D.dead D.secs.length at_ = refI D at_ := rfl
set_option maxHeartbeats 400000 in
theorem rread_is {B : Nat} {w : World} {D : DiskD} {v : Value} (h : RefIs B w D v) (hok : D.ok) (at_ : Int) : Calls Try.prog 58 #[v, .int .i64 at_] w fun e w' => e = .returned (.tuple #[.agg (cells (readS D at_)), .int .i64 (refI D at_)]) ∧ Below w.heap.size w w' := by
  obtain ⟨sa, sc, qa, qc, rfl, h1, h2⟩ := h
  obtain ⟨r1, l1, c1⟩ := owns_room h1
  obtain ⟨r2, l2, c2⟩ := owns_room h2
  have HMAY := Lib.hid (fun (dn : Int) (W : World) => rmay_is sa D.secs.length sc qa D.cache.length qc D.dead (armI D) dn at_ W)
  rw [mayR_ref] at HMAY
  obtain ⟨ri, hri⟩ : ∃ x, refI D at_ = x := ⟨_, rfl⟩
  rw [hri] at HMAY ⊢
  have HRI := Lib.hid hri
  by_cases h0 : ri = 0
  · subst h0
    obtain ⟨⟨ha0, ha1⟩, hdead⟩ := refI_zero hri
    obtain ⟨a, rfl⟩ := Int.eq_ofNat_of_zero_le ha0
    have haL : a < D.secs.length := by omega
    obtain ⟨S, hS⟩ : ∃ S, D.secs[a]? = some S := ⟨_, List.getElem?_eq_getElem haL⟩
    have hS8 : S.length = 128 := (hok.1 S (List.mem_of_getElem? hS)).1
    have hrs : readS D (a : Int) = readL D.cache a S := by
      unfold readS
      rw [if_neg (by rw [hri]; simp), Int.toNat_natCast, hS]
      rfl
    have hrow : (secR D.secs)[a]? = some (S.map byteV) := by unfold secR; rw [List.getElem?_map, hS]; rfl
    obtain ⟨sb, so, rfl, hsb, hsc⟩ := r1.row hrow
    have hload : ∀ (W : World), Below w.heap.size w W → ∀ j, j < 128 → W.cell? ⟨sb, so + a * 128 + j, none⟩ = some (byteV (S.getD j 0)) := fun W hW j hj => by
      have h9 := hsc j (byteV (S.getD j 0)) (by rw [List.getElem?_map, List.getElem?_eq_getElem (show j < S.length by omega)]; simp [List.getD, List.getElem?_eq_getElem (show j < S.length by omega)])
      rw [← Nat.add_assoc] at h9
      exact (hW.cell (p := ⟨sb, so + a * 128 + j, none⟩) hsb).trans h9
    have HLOAD := Lib.hid hload
    have HR2 := Lib.hid r2
    have HCA : Hid (∀ p ∈ D.cache, p.2.length = 128) := Lib.hid (fun p hp => (hok.2.1 p hp).2.1)
    have HS8 := Lib.hid hS8
    have hcl : D.cache.length ≤ 1000000 := hok.2.2.2.2.1
    have hsl : D.secs.length ≤ 65536 := hok.2.2.2.1
    rw [hrs]
    have HML : Hid (D.cache.length = D.cache.length) := Lib.hid rfl
    generalize D.cache = C at *
    obtain ⟨m, hm⟩ : ∃ x, C.length = x := ⟨_, rfl⟩
    have HM := Lib.hid hm
    rw [hm] at HMAY hcl ⊢
    generalize D.secs.length = n at *
    generalize armI D = ai at *
    generalize (D.deeds : Int) = dn at *
    rw [hdead] at HMAY ⊢
    clear hrs hrow hri h1 h2 r1 r2 l1 l2 c1 c2 hok hS hS8 hsb hsc hload hdead hm HML HRI
    unfold refV at *
    have hz := zero_full
    go_enter Try.func58, Try.ntmps58
    go_wp2_with fail
    refine (HMAY.out dn _).mono ?_
    rintro e w1 ⟨rfl, b1⟩
    obtain ⟨kb, n0, n1, hsz⟩ := two_cells b1
    have LD := Lib.hid (HLOAD.out w1 kb)
    have KB := Lib.hid kb
    have R2 := Lib.hid (HR2.out.below kb)
    obtain ⟨b0, hb0⟩ : ∃ x, w.heap.size = x := ⟨_, rfl⟩
    rw [hb0] at n0 n1 hsz ⊢
    have HB0 := Lib.hid hb0
    have x0 : w1.cell? ⟨b0, 0, none⟩ = some (.slice (some ⟨sb, so, none⟩) n sc) := cell_of_row n0 0
    have N0 := Lib.hid n0
    have N1 := Lib.hid n1
    obtain ⟨b2, hb2⟩ : ∃ x, w1.heap.size = x := ⟨_, rfl⟩
    have nS0 := heap_alloc_new w1 (.cells (cells noughts) 39)
    have nS := heap_alloc_new w1 (.cells (cells S) 39)
    have eS := World.setRow_alloc_new w1 (cells noughts) (cells S) 39
    have bS := below_box w1 (.cells (cells S) 39)
    obtain ⟨w2, hw2⟩ : ∃ x, w1.alloc (.cells (cells S) 39) = x := ⟨_, rfl⟩
    rw [hw2] at eS bS nS
    rw [hb2] at eS nS nS0
    have hs8 := HS8.out
    have hi0 : (0 : Int) ≤ (a : Int) := by omega
    clear n0 n1 hb0 b1 kb
    go_wp2_with (first | (refine wpList_load_full rfl _ rfl sb (so + a * 128) S rfl hs8 LD.out ?_) | (refine wpList_store_full rfl _ _ rfl b2 S rfl rfl hs8 _ _ nS0 rfl ?_; rw [eS]) | fail)
    have K2 : Hid (Below b2 w1 w2) := Lib.hid (by rw [← hb2]; exact bS)
    have NS : Hid (w2.heap[b2]? = some (.cells (cells S) 39 (0, 0))) := Lib.hid nS
    clear nS bS eS nS0 hw2 x0 LD
    have HB2 := Lib.hid hb2
    have hsz2 : b0 + 2 ≤ b2 := by omega
    clear hb2 hsz
    go_loopw [8] (fun i wr => ∃ k : Nat, k ≤ m ∧ i = .int .i64 (k : Int) ∧ Hid (Below b2 w1 wr) ∧ Hid (wr.heap[b2]? = some (.cells (cells (readL (C.take k) a S)) 39 (0, 0)))) (fun i _ => m - (intOf i).toNat)
    case atStart => exact ⟨0, Nat.zero_le _, rfl, K2, NS⟩
    case round =>
      obtain ⟨k, hk, rfl, KR, NR⟩ := hrel
      clear K2 NS
      have n0 := (KR.out.block b0 (by omega)).trans N0.out
      have x1 : wr.cell? ⟨b0, 1, none⟩ = some (.slice qa m qc) := cell_of_row n0 1
      clear n0
      by_cases hlt : k < m
      · obtain ⟨⟨pa, ps⟩, hp⟩ : ∃ p, C[k]? = some p := ⟨_, List.getElem?_eq_getElem (by rw [HM.out]; exact hlt)⟩
        have hps : ps.length = 128 := HCA.out _ (List.mem_of_getElem? hp)
        have hrow : (rowsW C)[k]? = some (wrV (pa, ps)) := by unfold rowsW; rw [List.getElem?_map, hp]; rfl
        obtain ⟨qb, qo, rfl, hqb, hc⟩ := (R2.out.below (by rw [HB2.out]; exact KR.out)).row hrow
        have d0 : wr.cell? ⟨qb, qo + k * 129, none⟩ = some (.int .i64 (pa : Int)) := hc 0 _ rfl
        have d1 : wr.rangeAt qb (qo + k * 129 + 1) (ps.map byteV) := fun i v hv => by have := hc (i + 1) v hv; rwa [show qo + (k * 129 + (i + 1)) = qo + k * 129 + 1 + i from by omega] at this
        have LQ := Lib.hid (row_cells d1 hps)
        have HTK := Lib.hid (readL_take hp a S)
        have hx0 : (0 : Int) ≤ (k : Int) := by omega
        have hx1 : (k : Int) < (m : Int) := by omega
        have HLT := Lib.hid hlt
        have HPS := Lib.hid hps
        have hkm : k ≤ 1000000 := by omega
        clear hc hrow hp d1 hlt hqb hps
        by_cases he : pa = a
        · subst he
          have h9 : ((pa : Int) == (pa : Int)) = true := by simp
          have ho := readL_len (C.take k) pa S (fun p hp => HCA.out p (List.mem_of_mem_take hp)) HS8.out
          have HO8 : Hid ((cells (readL (C.take k) pa S)).size = 128) := Lib.hid (by rw [cells_size]; exact ho)
          clear ho
          go_wp2_with (first | (refine wpList_load_full rfl _ rfl qb (qo + k * 129 + 1) ps rfl HPS.out LQ.out ?_) | (refine wpList_store_full rfl _ _ rfl b2 ps rfl rfl HPS.out _ _ NR.out HO8.out ?_) | fail)
          have h1 := HLT.out
          go_roundw
          case rel =>
            refine ⟨k + 1, HLT.out, by go_num, Lib.hid (below_setRow KR.out (Nat.le_refl _) _), Lib.hid ?_⟩
            rw [setRow_heap wr b2 _ (cells ps) _ _ NR.out, HTK.out, if_pos rfl]
          case measure => simp [intOf]; omega
        · have h9 : ((pa : Int) == (a : Int)) = false := by simp; omega
          have h8 : ¬ (pa : Int) = (a : Int) := by omega
          go_wp2_with fail
          have h1 := HLT.out
          go_roundw
          case rel => exact ⟨k + 1, HLT.out, by go_num, KR, Lib.hid (by rw [HTK.out, if_neg he]; exact NR.out)⟩
          case measure => simp [intOf]; omega
      · obtain rfl : k = m := by omega
        have htl : C.take k = C := List.take_of_length_le (by rw [HM.out]; exact Nat.le_refl _)
        rw [htl] at NR
        have hge : ¬ (k : Int) < (k : Int) := by omega
        have hl8 := readL_len C a S HCA.out HS8.out
        have LR := Lib.hid (row_cells (w := wr) (g := b2) (off := 0) (s := readL C a S) (range_of NR.out) hl8)
        have n1 := (KR.out.block (b0 + 1) (by omega)).trans N1.out
        have NR1 := Lib.hid n1
        have HL8 := Lib.hid hl8
        have BF : Hid (Below b0 w (wr.setRow (b0 + 1) (cells (readL C a S)))) := Lib.hid (by
          have k1 := KB.out
          rw [HB0.out] at k1
          exact below_setRow (k1.trans (KR.out.mono (by omega))) (by omega) _)
        obtain ⟨X, hX⟩ : ∃ X, readL C a S = X := ⟨_, rfl⟩
        rw [hX] at LR HL8 BF
        have HX := Lib.hid hX
        clear n1 hl8 htl hlt hk hX NR
        go_wp2_with (first | (refine wpList_load_full rfl _ rfl b2 0 X rfl HL8.out LR.out ?_) | (refine wpList_store_full rfl _ _ rfl (b0 + 1) X rfl rfl HL8.out _ _ NR1.out rfl ?_) | fail)
        refine bodyPost_ret (results_full_tmp rfl _ _ (b0 + 1) X _ _ rfl (setRow_heap wr (b0 + 1) _ (cells X) _ _ NR1.out) HL8.out) rfl ?_
        exact ⟨by rw [HX.out]; rfl, by rw [HB0.out]; exact BF.out⟩
  · have hs : readS D at_ = noughts := by unfold readS; rw [if_pos (by rw [hri]; exact h0)]
    rw [hs]
    generalize D.secs.length = n at *
    generalize D.cache.length = m at *
    generalize armI D = ai at *
    generalize (D.deeds : Int) = dn at *
    generalize D.dead = dd at *
    clear hs hri h1 h2 r1 r2 l1 l2 c1 c2 hok
    unfold refV at *
    have hz := zero_full
    have hbf := build_full
    go_enter Try.func58, Try.ntmps58
    go_wp2_with fail
    refine (HMAY.out dn _).mono ?_
    rintro e w1 ⟨rfl, b1⟩
    obtain ⟨kb, n0, n1, hsz⟩ := two_cells b1
    have N1 := Lib.hid n1
    have BF : Hid (Below w.heap.size w (w1.setRow (w.heap.size + 1) (cells noughts))) := Lib.hid (below_setRow kb (by omega) _)
    clear n0 n1 kb b1 HRI
    have h9 : (ri != 0) = true := by simpa using h0
    go_wp2_with (first | (refine wpList_store_full rfl _ _ rfl (w.heap.size + 1) noughts rfl rfl rfl _ _ N1.out rfl ?_) | fail)
    refine bodyPost_ret (results_full_tmp rfl _ _ (w.heap.size + 1) noughts _ _ rfl (setRow_heap w1 (w.heap.size + 1) _ (cells noughts) _ _ N1.out) rfl) rfl ?_
    exact ⟨rfl, BF.out⟩
end Go.Proofs.Ythainmbapikjiaa
