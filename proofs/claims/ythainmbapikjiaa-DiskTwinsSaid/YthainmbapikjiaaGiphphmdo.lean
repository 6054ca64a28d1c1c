/- DiskTwins' walk. -/
import Derived.Test.YthainmbapikjiaaGaekgpeia
import Derived.Test.YthainmbapikjiaaGfnhbgloh
import Derived.Test.YthainmbapikjiaaGenboblam
import Derived.Test.YthainmbapikjiaaGbpfbgbjo
import Derived.Deep.DeepCutAuto
import Derived.Deep.CutBlock
import Derived.Lib.MinMax
namespace Go.Proofs.Ythainmbapikjiaa
open Go.RowKit Go.Sort
set_option linter.unusedVariables false
set_option linter.unusedSimpArgs false
set_option maxRecDepth 100000

set_option maxHeartbeats 1600000 in
theorem diskTwins_walk (a : Option Addr) (cap : Nat) (l : List Act3D) (a1 : Option Addr) (cap1 : Nat) (l1 : List Act3D) (a2 : Option Addr) (cap2 : Nat) (l2 : List Act3D) (w : World) (hr : ReadsR w a 4 (rowsOf act3V l)) (hfit : ∀ u ∈ l, Act3Fits w u) (hcap : l.length ≤ cap) (hr1 : ReadsR w a1 4 (rowsOf act3V l1)) (hfit1 : ∀ u ∈ l1, Act3Fits w u) (hcap1 : l1.length ≤ cap1) (hr2 : ReadsR w a2 4 (rowsOf act3V l2)) (hfit2 : ∀ u ∈ l2, Act3Fits w u) (hcap2 : l2.length ≤ cap2) :
    Calls Try.prog 3 #[.slice a l.length cap, .slice a1 l1.length cap1, .slice a2 l2.length cap2] w fun e w' => e = .returned (.bool true) ∧ Below w.heap.size w w' := by
  obtain ⟨L, hL⟩ : ∃ L, l.length = L := ⟨_, rfl⟩
  have HLN := Lib.hid hL
  rw [hL] at hcap ⊢
  have HR := Lib.hid hr
  have HF := Lib.hid hfit
  have HRB : Hid (∀ b off, a = some (⟨b, off, none⟩ : Addr) → l ≠ [] → b < w.heap.size) := Lib.hid (fun b off e hne => by
    rcases HR.out.2 with h0 | ⟨b9, o9, he, hb9, _⟩
    · have h1 := congrArg List.length h0
      rw [rowsOf_length] at h1
      exact absurd (List.length_eq_zero_iff.1 h1) hne
    · rw [e] at he
      cases he
      exact hb9)
  obtain ⟨L1, hL1⟩ : ∃ L1, l1.length = L1 := ⟨_, rfl⟩
  have HLN1 := Lib.hid hL1
  rw [hL1] at hcap1 ⊢
  have HR1 := Lib.hid hr1
  have HF1 := Lib.hid hfit1
  have HRB1 : Hid (∀ b off, a1 = some (⟨b, off, none⟩ : Addr) → l1 ≠ [] → b < w.heap.size) := Lib.hid (fun b off e hne => by
    rcases HR1.out.2 with h0 | ⟨b9, o9, he, hb9, _⟩
    · have h1 := congrArg List.length h0
      rw [rowsOf_length] at h1
      exact absurd (List.length_eq_zero_iff.1 h1) hne
    · rw [e] at he
      cases he
      exact hb9)
  obtain ⟨L2, hL2⟩ : ∃ L2, l2.length = L2 := ⟨_, rfl⟩
  have HLN2 := Lib.hid hL2
  rw [hL2] at hcap2 ⊢
  have HR2 := Lib.hid hr2
  have HF2 := Lib.hid hfit2
  have HRB2 : Hid (∀ b off, a2 = some (⟨b, off, none⟩ : Addr) → l2 ≠ [] → b < w.heap.size) := Lib.hid (fun b off e hne => by
    rcases HR2.out.2 with h0 | ⟨b9, o9, he, hb9, _⟩
    · have h1 := congrArg List.length h0
      rw [rowsOf_length] at h1
      exact absurd (List.length_eq_zero_iff.1 h1) hne
    · rw [e] at he
      cases he
      exact hb9)
  clear hL1 hL2
  clear hr hfit hL hr1 hfit1 hcap1 hr2 hfit2 hcap2
  go_enter Try.func3, Try.ntmps3
  go_wp2_with fail
  refine (awake3_true w).mono ?_
  rintro e w1 ⟨rfl, b1⟩
  have B1 := Lib.hid b1
  clear b1
  go_wp2_with fail
  refine (sized_at 7 7 (by decide) w1).mono ?_
  rintro e w2 ⟨g, gs, v, rfl, hd2, hr2, b2⟩
  obtain ⟨xa, xn, xc, ya, yn, yc, dd, ai, dn, rfl⟩ := ref_agg hr2
  obtain ⟨gb, hgb⟩ : ∃ x, w2.heap.size = x := ⟨_, rfl⟩
  have n3 := heap_alloc_new w2 (.cells #[.slice xa xn xc, .slice ya yn yc, .bool dd, .int .i64 ai, .int .i64 dn] 28)
  have b3 := below_box w2 (.cells #[.slice xa xn xc, .slice ya yn yc, .bool dd, .int .i64 ai, .int .i64 dn] 28)
  obtain ⟨w3, hw3⟩ : ∃ x, w2.alloc (.cells #[.slice xa xn xc, .slice ya yn yc, .bool dd, .int .i64 ai, .int .i64 dn] 28) = x := ⟨_, rfl⟩
  rw [hw3] at n3 b3
  rw [hgb] at n3
  have HD3 := Lib.hid (hd2.more b3)
  have HR3 := Lib.hid (hr2.below b3)
  have HN3 := Lib.hid n3
  have HB3 : Hid (Below w.heap.size w w3) := Lib.hid (below_next B1.out (below_next b2 b3))
  have hgb1 : w1.heap.size ≤ gb := by rw [← hgb]; exact b2.size
  have HW1 : Hid (w.heap.size ≤ w1.heap.size) := Lib.hid B1.out.size
  clear n3 b3 b2 hd2 hr2
  go_upto_block 0 with fail
  clear hw3 hgb
  go_cut [9] (fun _ wc => ∃ (D : DiskD) (cv : Value) (xa : Option Addr) (xn xc : Nat) (ya : Option Addr) (yn yc : Nat) (dd : Bool) (ai dn : Int), Hid (IsDisk w1.heap.size wc g gs cv D) ∧ Hid (RefIs w1.heap.size wc D (.agg #[.slice xa xn xc, .slice ya yn yc, .bool dd, .int .i64 ai, .int .i64 dn])) ∧ Hid (wc.heap[gb]? = some (.cells #[.slice xa xn xc, .slice ya yn yc, .bool dd, .int .i64 ai, .int .i64 dn] 28 (0, 0))) ∧ Hid (Below w.heap.size w wc) ∧ Hid (Still D ∧ D.secs.length = 7) ∧ D.deeds ≤ 20 ∧ D.cache.length ≤ 20)
  case first =>
    go_wp2_with fail
    go_loopw [9] (fun i wr => ∃ (j : Nat) (D : DiskD) (cv : Value) (xa : Option Addr) (xn xc : Nat) (ya : Option Addr) (yn yc : Nat) (dd : Bool) (ai dn : Int), j ≤ L ∧ j ≤ 20 ∧ i = .int .i64 (j : Int) ∧ Hid (IsDisk w1.heap.size wr g gs cv D) ∧ Hid (RefIs w1.heap.size wr D (.agg #[.slice xa xn xc, .slice ya yn yc, .bool dd, .int .i64 ai, .int .i64 dn])) ∧ Hid (wr.heap[gb]? = some (.cells #[.slice xa xn xc, .slice ya yn yc, .bool dd, .int .i64 ai, .int .i64 dn] 28 (0, 0))) ∧ Hid (Below w.heap.size w wr) ∧ Hid (Still D ∧ D.secs.length = 7) ∧ D.deeds ≤ j ∧ D.cache.length ≤ j) (fun i _ => 20 - (intOf i).toNat)
    case atStart => exact ⟨0, _, _, _, _, _, _, _, _, _, _, _, Nat.zero_le _, by decide, rfl, HD3, HR3, HN3, HB3, Lib.hid ⟨still_new 7, rfl⟩, Nat.le_refl _, Nat.le_refl _⟩
    case round =>
      obtain ⟨j, D, cv, xa, xn, xc, ya, yn, yc, dd, ai, dn, hj1, hj2, rfl, HD, HRR, HN, HB, HC, hde, hca⟩ := hrel
      clear HD3 HR3 HN3 HB3
      by_cases hlt : j < L
      · by_cases h20 : j < 20
        · obtain ⟨⟨kd, at_, sa, sn, sc, ka1, kn1, kc1, S, ks1⟩, hx⟩ : ∃ x, l[j]? = some x := ⟨_, List.getElem?_eq_getElem (by rw [HLN.out]; exact hlt)⟩
          obtain ⟨p1, p2, ⟨p3, p4⟩, p5, p6⟩ := HF.out _ (List.mem_of_getElem? hx)
          dsimp only at p1 p2 p3 p4 p5 p6
          obtain ⟨b, off, rfl, hb, hc⟩ := (HR.out.below HB.out).row (rowsOf_get hx)
          have c0 : wr.cell? ⟨b, off + j * 4, none⟩ = some (.int .i64 kd) := hc 0 _ rfl
          have c1 : wr.cell? ⟨b, off + j * 4 + 1, none⟩ = some (.int .i64 at_) := by have := hc 1 _ rfl; rwa [← Nat.add_assoc] at this
          have c2 : wr.cell? ⟨b, off + j * 4 + 2, none⟩ = some (.slice sa sn sc) := by have := hc 2 _ rfl; rwa [← Nat.add_assoc] at this
          have c3 : wr.cell? ⟨b, off + j * 4 + 3, none⟩ = some (.slice ka1 kn1 kc1) := by have := hc 3 _ rfl; rwa [← Nat.add_assoc] at this
          have hx1 : (0 : Int) ≤ (j : Int) := by omega
          have hx2 : (j : Int) < (L : Int) := by omega
          have hx3 : (j : Int) < 20 := by omega
          have hsB : S ≠ [] → ∀ y, sa = some y → y.block < w1.heap.size := fun hne y hy => by
            rcases p3.2.2 with h0 | ⟨b9, o9, he, hb9, _⟩
            · exact absurd h0 hne
            · rw [hy] at he
              have := Option.some.inj he
              have h9 := HW1.out
              rw [this]
              show b9 < _
              omega
          have hkB : ks1 ≠ [] → ∀ y, ka1 = some y → y.block < w1.heap.size := fun hne y hy => by
            rcases p5.2 with h0 | ⟨b9, o9, he, hb9, _⟩
            · exact absurd h0 hne
            · rw [hy] at he
              have := Option.some.inj he
              have h9 := HW1.out
              rw [this]
              show b9 < _
              omega
          have HDOF := Lib.hid (fun (W : World) (hW : Below wr.heap.size wr W) => do3_is (HD.out.more hW) (HRR.out.below hW) (by omega) (by omega) kd at_ sa sn sc S (p3.below (below_next HB.out hW)) p3.2.1 p4 hsB ka1 kn1 kc1 ks1 (readsB_below p5 (below_next HB.out hW)) p6 hkB p2.2)
          have NGB := Lib.hid (rbox_ne HD.out HN.out)
          have HBB : Hid (b < w1.heap.size) := Lib.hid (by have := HRB.out b off rfl (by intro h0; rw [h0] at hx; cases hx); have := HW1.out; omega)
          have HWR : Hid (w1.heap.size ≤ wr.heap.size) := Lib.hid HD.out.size
          have SX : Hid (∀ W : World, W.heap[b]? = wr.heap[b]? → (W.cell? ⟨b, off + j * 4, none⟩ = some (.int .i64 kd) ∧ W.cell? ⟨b, off + j * 4 + 1, none⟩ = some (.int .i64 at_) ∧ W.cell? ⟨b, off + j * 4 + 2, none⟩ = some (.slice sa sn sc) ∧ W.cell? ⟨b, off + j * 4 + 3, none⟩ = some (.slice ka1 kn1 kc1))) := Lib.hid (fun W e1 => ⟨(World.cell?_of_block (w := wr) (a := ⟨b, off + j * 4, none⟩) e1).trans c0, (World.cell?_of_block (w := wr) (a := ⟨b, off + j * 4 + 1, none⟩) e1).trans c1, (World.cell?_of_block (w := wr) (a := ⟨b, off + j * 4 + 2, none⟩) e1).trans c2, (World.cell?_of_block (w := wr) (a := ⟨b, off + j * 4 + 3, none⟩) e1).trans c3⟩)
          have HLT := Lib.hid hlt
          have HJ4 := Lib.hid h20
          have HDC := Lib.hid (And.intro hde hca)
          clear p1 p2 p3 p4 p5 p6 hsB hkB hc hx hb hlt h20
          go_wp2_with fail
          clear c0 c1 c2 c3
          refine wp_region_held_drew (S := fun W => (W.cell? ⟨b, off + j * 4, none⟩ = some (.int .i64 kd) ∧ W.cell? ⟨b, off + j * 4 + 1, none⟩ = some (.int .i64 at_) ∧ W.cell? ⟨b, off + j * 4 + 2, none⟩ = some (.slice sa sn sc) ∧ W.cell? ⟨b, off + j * 4 + 3, none⟩ = some (.slice ka1 kn1 kc1))) (by kernel_rfl) (SX.out wr.drew rfl) (fun hHeld => ?_)
          obtain ⟨w5, hw5⟩ : ∃ x, wr.drew = x := ⟨_, rfl⟩
          have c5 : Below wr.heap.size wr w5 := by rw [← hw5]; exact (Below.refl _ _).drew
          have ea5 : w5.heap[b]? = wr.heap[b]? := by rw [← hw5]; rfl
          have n5 : w5.heap[gb]? = some (.cells #[.slice xa xn xc, .slice ya yn yc, .bool dd, .int .i64 ai, .int .i64 dn] 28 (0, 0)) := by rw [← hw5]; exact HN.out
          have HN5 := Lib.hid n5
          have x0 : w5.cell? ⟨gb, 0, none⟩ = some (.slice xa xn xc) := cell_of_row n5 0
          have x1 : w5.cell? ⟨gb, 1, none⟩ = some (.slice ya yn yc) := cell_of_row n5 1
          have x2 : w5.cell? ⟨gb, 2, none⟩ = some (.bool dd) := cell_of_row n5 2
          have x3 : w5.cell? ⟨gb, 3, none⟩ = some (.int .i64 ai) := cell_of_row n5 3
          have x4 : w5.cell? ⟨gb, 4, none⟩ = some (.int .i64 dn) := cell_of_row n5 4
          have s5 := c5.size
          rw [hw5] at hHeld ⊢
          clear hw5 n5
          refine wpAnyH_take (i := 0) (v := .pointer (some ⟨g, 0, none⟩)) rfl (by kernel_rfl) (by kernel_rfl) (by kernel_rfl) (fun _ _ _ h => h) (Or.inl ⟨by rfl, by intro W hSw; clear hSw; go_simp⟩) (by assumption) ?_
          try simp only [List.getElem_toArray, List.getElem_cons_zero, List.getElem_cons_succ, Act.put, List.setIfInBounds_toArray, List.set_cons_zero, List.set_cons_succ]
          refine wpAnyH_take (i := 2) (v := .slice (some ⟨b, off, none⟩) L cap) rfl (by kernel_rfl) (by kernel_rfl) (by kernel_rfl) (fun _ _ _ h => h) (Or.inl ⟨by rfl, by intro W hSw; clear hSw; go_simp⟩) (by assumption) ?_
          try simp only [List.getElem_toArray, List.getElem_cons_zero, List.getElem_cons_succ, Act.put, List.setIfInBounds_toArray, List.set_cons_zero, List.set_cons_succ]
          refine wpAnyH_take (i := 3) (v := .int .i64 (j : Int)) rfl (by kernel_rfl) (by kernel_rfl) (by kernel_rfl) (fun _ _ _ h => h) (Or.inl ⟨by rfl, by intro W hSw; clear hSw; go_simp⟩) (by assumption) ?_
          try simp only [List.getElem_toArray, List.getElem_cons_zero, List.getElem_cons_succ, Act.put, List.setIfInBounds_toArray, List.set_cons_zero, List.set_cons_succ]
          refine wpAnyH_take (i := 4) (v := .pointer (some ⟨b, off + j * 4, none⟩)) rfl (by kernel_rfl) (by kernel_rfl) (by kernel_rfl) (fun _ _ _ h => h) (Or.inl ⟨by rfl, by intro W hSw; clear hSw; go_simp⟩) (by assumption) ?_
          try simp only [List.getElem_toArray, List.getElem_cons_zero, List.getElem_cons_succ, Act.put, List.setIfInBounds_toArray, List.set_cons_zero, List.set_cons_succ]
          refine wpAnyH_take (i := 5) (v := .agg #[.int .i64 kd, .int .i64 at_, .slice sa sn sc, .slice ka1 kn1 kc1]) rfl (by kernel_rfl) (by kernel_rfl) (by kernel_rfl) (fun _ _ _ h => h) (Or.inl ⟨by rfl, by intro W hSw; obtain ⟨q5, q6, q7, q8⟩ := hSw; go_simp⟩) (by assumption) ?_
          try simp only [List.getElem_toArray, List.getElem_cons_zero, List.getElem_cons_succ, Act.put, List.setIfInBounds_toArray, List.set_cons_zero, List.set_cons_succ]
          refine wpAnyH_ready (rs := [1]) (by kernel_rfl) (by simp) ?_
          refine AllReadyH.cons rfl (fun K hK => ?_) AllReadyH.nil
          go_simp
          refine hK.out _ _ hHeld (fun hH5 => ?_)
          clear hK K x0 x1 x2 x3 x4
          try simp only [List.getElem_toArray, List.getElem_cons_zero, List.getElem_cons_succ, Act.put, List.setIfInBounds_toArray, List.set_cons_zero, List.set_cons_succ]
          refine wpAnyH_ready (rs := [6]) (by kernel_rfl) (by simp) ?_
          refine AllReadyH.cons rfl (fun K hK => ?_) AllReadyH.nil
          go_simp
          refine (HDOF.out w5 c5).mono ?_
          rintro e w6 ⟨D4, cv4, v4, rfl, hd6, hr6, hb4, hk4, h41, h42, h43, h44, _⟩
          obtain ⟨xa4, xn4, xc4, ya4, yn4, yc4, dd4, ai4, dn4, rfl⟩ := ref_agg hr6
          have n6 := (hk4.block gb (Array.getElem?_eq_some_iff.1 HN5.out).1 NGB.out.1 NGB.out.2.1 NGB.out.2.2).trans HN5.out
          have ea6 : w6.heap[b]? = wr.heap[b]? := (hb4.block b (by have := HBB.out; omega)).trans ea5
          have bb6 : Below w1.heap.size wr w6 := (c5.mono HWR.out).trans hb4
          dsimp only
          refine hK.out _ _ (SX.out w6 ea6) (fun hH6 => ?_)
          clear hK K
          try simp only [List.getElem_toArray, List.getElem_cons_zero, List.getElem_cons_succ, Act.put, List.setIfInBounds_toArray, List.set_cons_zero, List.set_cons_succ]
          refine wpAnyH_take (i := 7) (v := .tuple #[.agg #[.slice xa4 xn4 xc4, .slice ya4 yn4 yc4, .bool dd4, .int .i64 ai4, .int .i64 dn4], .bool true]) rfl (by kernel_rfl) (by kernel_rfl) (by kernel_rfl) (fun _ _ _ h => h) (Or.inl ⟨by rfl, by intro W hSw; clear hSw; go_simp⟩) (by assumption) ?_
          try simp only [List.getElem_toArray, List.getElem_cons_zero, List.getElem_cons_succ, Act.put, List.setIfInBounds_toArray, List.set_cons_zero, List.set_cons_succ]
          refine wpAnyH_take (i := 8) (v := .agg #[.slice xa4 xn4 xc4, .slice ya4 yn4 yc4, .bool dd4, .int .i64 ai4, .int .i64 dn4]) rfl (by kernel_rfl) (by kernel_rfl) (by kernel_rfl) (fun _ _ _ h => h) (Or.inl ⟨by rfl, by intro W hSw; clear hSw; go_simp⟩) (by assumption) ?_
          try simp only [List.getElem_toArray, List.getElem_cons_zero, List.getElem_cons_succ, Act.put, List.setIfInBounds_toArray, List.set_cons_zero, List.set_cons_succ]
          refine wpAnyH_take (i := 9) (v := .bool true) rfl (by kernel_rfl) (by kernel_rfl) (by kernel_rfl) (fun _ _ _ h => h) (Or.inl ⟨by rfl, by intro W hSw; clear hSw; go_simp⟩) (by assumption) ?_
          try simp only [List.getElem_toArray, List.getElem_cons_zero, List.getElem_cons_succ, Act.put, List.setIfInBounds_toArray, List.set_cons_zero, List.set_cons_succ]
          have y0 := cell_of_row n6 0
          have y1 := cell_of_row n6 1
          have y2 := cell_of_row n6 2
          have y3 := cell_of_row n6 3
          have y4 := cell_of_row n6 4
          have fy := fun i => frozen_of_row w6 gb i _ _ n6
          have G := (five_set (.slice xa4 xn4 xc4) (.slice ya4 yn4 yc4) (.bool dd4) (.int .i64 ai4) (.int .i64 dn4) n6).2
          have nz := five_heap (.slice xa4 xn4 xc4) (.slice ya4 yn4 yc4) (.bool dd4) (.int .i64 ai4) (.int .i64 dn4) n6
          obtain ⟨w9, hw9⟩ : ∃ x, (((((w6.setCell ⟨gb, 0, none⟩ (.slice xa4 xn4 xc4)).setCell ⟨gb, 1, none⟩ (.slice ya4 yn4 yc4)).setCell ⟨gb, 2, none⟩ (.bool dd4)).setCell ⟨gb, 3, none⟩ (.int .i64 ai4)).setCell ⟨gb, 4, none⟩ (.int .i64 dn4)) = x := ⟨_, rfl⟩
          rw [hw9] at G nz
          have hbg : b ≠ gb := by have := HBB.out; omega
          have ea9 : w9.heap[b]? = wr.heap[b]? := (G.block b (by have h1 := HBB.out; have h2 := bb6.size; have h3 := HWR.out; omega) (by intro e; exact hbg (Option.some.inj e))).trans ea6
          have HD9 := Lib.hid (hd6.keptR G n6)
          have HR9 := Lib.hid (hr6.keptR G n6)
          have HB9 : Hid (Below w.heap.size w w9) := Lib.hid (by
            have h1 := HB.out.trans (bb6.mono HW1.out)
            exact h1.grown G h1.size (fun i hi => by obtain rfl := Option.some.inj hi; have := HW1.out; omega))
          have NZ := Lib.hid nz
          have HC9 : Hid (Still D4 ∧ D4.secs.length = 7) := Lib.hid ⟨h44.2 HC.out.1, h41.trans HC.out.2⟩
          have HDC9 := Lib.hid (And.intro h42 h43)
          refine wpAnyH_ready (rs := [10]) (by kernel_rfl) (by simp) ?_
          refine AllReadyH.cons rfl (fun K hK => ?_) AllReadyH.nil
          go_simp
          refine hK.out _ _ (SX.out w9 ea9) (fun hH9 => ?_)
          clear hK K hw9 y0 y1 y2 y3 y4 fy nz G ea9 ea6 n6 bb6 hd6 hr6 hb4 hk4 h41 h42 h43 h44
          try simp only [List.getElem_toArray, List.getElem_cons_zero, List.getElem_cons_succ, Act.put, List.setIfInBounds_toArray, List.set_cons_zero, List.set_cons_succ]
          refine wpAnyH_done (by kernel_rfl) ?_ _
          clear hH9 hH6 hH5 hHeld
          go_wp2
          have h1 := HLT.out
          have h2 := HJ4.out
          go_roundw
          case rel => exact ⟨j + 1, D4, cv4, xa4, xn4, xc4, ya4, yn4, yc4, dd4, ai4, dn4, HLT.out, HJ4.out, by go_num, HD9, HR9, NZ, HB9, HC9, by have := HDC9.out.2; have := HDC.out.1; omega, by have := HDC9.out.1; have := HDC.out.2; omega⟩
          case measure => simp [intOf]; omega
        · have hx2 : (j : Int) < (L : Int) := by omega
          have hx3 : ¬ (j : Int) < 20 := by omega
          go_wp2_with fail
          go_meet
          exact ⟨D, cv, xa, xn, xc, ya, yn, yc, dd, ai, dn, HD, HRR, HN, HB, HC, by omega, by omega⟩
      · have hx2 : ¬ (j : Int) < (L : Int) := by omega
        go_wp2_with fail
        go_meet
        exact ⟨D, cv, xa, xn, xc, ya, yn, yc, dd, ai, dn, HD, HRR, HN, HB, HC, by omega, by omega⟩
  case rest =>
    obtain ⟨D, cv, xa, xn, xc, ya, yn, yc, dd, ai, dn, HD, HRR, HN, HB, HC, hde, hca⟩ := hcut
    clear HD3 HR3 HN3 HB3
    generalize wc = wk at *
    go_upto_region 8 with fail
    go_cut [10, 11] (fun v10 v11 wc => ∃ (g' gs' : Nat) (cv' : Value) (room : Nat) (junk : List Value) (gb2 : Nat), v10 = .pointer (some ⟨g', 0, none⟩) ∧ v11 = .pointer (some ⟨gb2, 0, none⟩) ∧ w1.heap.size ≤ gb2 ∧ Hid (Oth w1.heap.size wc g gs cv gb g' gs' cv' { D with room := room, junk := junk } gb2 #[.slice xa xn xc, .slice ya yn yc, .bool dd, .int .i64 ai, .int .i64 dn]) ∧ Hid (IsDisk w1.heap.size wc g gs cv D) ∧ Hid (RefIs w1.heap.size wc D (.agg #[.slice xa xn xc, .slice ya yn yc, .bool dd, .int .i64 ai, .int .i64 dn])) ∧ Hid (wc.heap[gb]? = some (.cells #[.slice xa xn xc, .slice ya yn yc, .bool dd, .int .i64 ai, .int .i64 dn] 28 (0, 0))) ∧ Hid (Below w.heap.size w wc))
    case first =>
      have SX : Hid (∀ W : World, W.heap[gb]? = wk.heap[gb]? → (W.cell? ⟨gb, 0, none⟩ = some (.slice xa xn xc) ∧ W.cell? ⟨gb, 1, none⟩ = some (.slice ya yn yc) ∧ W.cell? ⟨gb, 2, none⟩ = some (.bool dd) ∧ W.cell? ⟨gb, 3, none⟩ = some (.int .i64 ai) ∧ W.cell? ⟨gb, 4, none⟩ = some (.int .i64 dn))) := Lib.hid (fun W e0 => by
        have k0 := e0.trans HN.out
        exact ⟨cell_of_row k0 0, cell_of_row k0 1, cell_of_row k0 2, cell_of_row k0 3, cell_of_row k0 4⟩)
      have HGB : Hid (gb < wk.heap.size) := Lib.hid (Array.getElem?_eq_some_iff.1 HN.out).1
      go_wp2_with fail
      refine wp_region_held_drew (S := fun W => (W.cell? ⟨gb, 0, none⟩ = some (.slice xa xn xc) ∧ W.cell? ⟨gb, 1, none⟩ = some (.slice ya yn yc) ∧ W.cell? ⟨gb, 2, none⟩ = some (.bool dd) ∧ W.cell? ⟨gb, 3, none⟩ = some (.int .i64 ai) ∧ W.cell? ⟨gb, 4, none⟩ = some (.int .i64 dn))) (by kernel_rfl) (SX.out wk.drew rfl) (fun hHeld => ?_)
      obtain ⟨w5, hw5⟩ : ∃ x, wk.drew = x := ⟨_, rfl⟩
      have c5 : Below wk.heap.size wk w5 := by rw [← hw5]; exact (Below.refl _ _).drew
      have eb5 : w5.heap[gb]? = wk.heap[gb]? := by rw [← hw5]; rfl
      rw [hw5] at hHeld ⊢
      clear hw5
      refine wpAnyH_take (i := 0) (v := .pointer (some ⟨g, 0, none⟩)) rfl (by kernel_rfl) (by kernel_rfl) (by kernel_rfl) (fun _ _ _ h => h) (Or.inl ⟨by rfl, by intro W hSw; clear hSw; go_simp⟩) (by assumption) ?_
      try simp only [List.getElem_toArray, List.getElem_cons_zero, List.getElem_cons_succ, Act.put, List.setIfInBounds_toArray, List.set_cons_zero, List.set_cons_succ]
      refine wpAnyH_take (i := 2) (v := .agg #[.slice xa xn xc, .slice ya yn yc, .bool dd, .int .i64 ai, .int .i64 dn]) rfl (by kernel_rfl) (by kernel_rfl) (by kernel_rfl) (fun _ _ _ h => h) (Or.inl ⟨by rfl, by intro W hSw; obtain ⟨q0, q1, q2, q3, q4⟩ := hSw; go_simp⟩) (by assumption) ?_
      try simp only [List.getElem_toArray, List.getElem_cons_zero, List.getElem_cons_succ, Act.put, List.setIfInBounds_toArray, List.set_cons_zero, List.set_cons_succ]
      refine wpAnyH_ready (rs := [1, 3]) (by kernel_rfl) (by simp) ?_
      refine AllReadyH.cons rfl (fun K hK => ?_) (AllReadyH.cons rfl (fun K hK => ?_) AllReadyH.nil)
      · go_simp
        refine (twin_is (HD.out.more c5)).mono ?_
        rintro e w6 ⟨g', gs', cv', room, junk, rfl, hT, bT⟩
        have hT6 : IsDisk wk.heap.size w6 g' gs' cv' { D with room := room, junk := junk } := disk_less hT c5.size
        have c6 : Below wk.heap.size wk w6 := below_next c5 bT
        have eb6 : w6.heap[gb]? = wk.heap[gb]? := c6.block gb HGB.out
        clear hT bT
        try dsimp only
        refine hK.out _ _ (SX.out w6 eb6) (fun hH6 => ?_)
        clear hK K
        try simp only [List.getElem_toArray, List.getElem_cons_zero, List.getElem_cons_succ, Act.put, List.setIfInBounds_toArray, List.set_cons_zero, List.set_cons_succ]
        refine wpAnyH_ready (rs := [3]) (by kernel_rfl) (by simp) ?_
        refine AllReadyH.cons rfl (fun K hK => ?_) AllReadyH.nil
        obtain ⟨w7, hw7⟩ : ∃ x, w6.alloc (.cells #[.slice none 0 0, .slice none 0 0, .bool false, .int .i64 0, .int .i64 0] 28) = x := ⟨_, rfl⟩
        have d7 : Below w6.heap.size w6 w7 := by rw [← hw7]; exact below_box w6 _
        have nx7 : w7.heap[w6.heap.size]? = some (.cells zeroR 28 (0, 0)) := by rw [← hw7]; exact heap_alloc_new w6 _
        obtain ⟨gx, hgx⟩ : ∃ x, w6.heap.size = x := ⟨_, rfl⟩
        rw [hgx] at nx7
        have HGX : Hid (wk.heap.size ≤ gx) := Lib.hid (by rw [← hgx]; exact c6.size)
        have c7 : Below wk.heap.size wk w7 := below_next c6 d7
        have eb7 : w7.heap[gb]? = wk.heap[gb]? := c7.block gb HGB.out
        have hT7 := hT6.more d7
        go_simp
        refine hK.out _ _ (SX.out w7 eb7) (fun hH7 => ?_)
        clear hK K hw7 d7
        try simp only [List.getElem_toArray, List.getElem_cons_zero, List.getElem_cons_succ, Act.put, List.setIfInBounds_toArray, List.set_cons_zero, List.set_cons_succ]
        refine wpAnyH_take (i := 4) (v := .pointer (some ⟨g', 0, none⟩)) rfl (by kernel_rfl) (by kernel_rfl) (by kernel_rfl) (fun _ _ _ h => h) (Or.inl ⟨by rfl, by intro W hSw; clear hSw; go_simp⟩) (by assumption) ?_
        try simp only [List.getElem_toArray, List.getElem_cons_zero, List.getElem_cons_succ, Act.put, List.setIfInBounds_toArray, List.set_cons_zero, List.set_cons_succ]
        refine wpAnyH_ready (rs := [5]) (by kernel_rfl) (by simp) ?_
        refine AllReadyH.cons rfl (fun K hK => ?_) AllReadyH.nil
        have y0 := cell_of_row nx7 0
        have y1 := cell_of_row nx7 1
        have y2 := cell_of_row nx7 2
        have y3 := cell_of_row nx7 3
        have y4 := cell_of_row nx7 4
        have fy := fun i => frozen_of_row w7 gx i _ _ nx7
        have G := (five_set (.slice xa xn xc) (.slice ya yn yc) (.bool dd) (.int .i64 ai) (.int .i64 dn) nx7).2
        have nx8 := five_heap (.slice xa xn xc) (.slice ya yn yc) (.bool dd) (.int .i64 ai) (.int .i64 dn) nx7
        obtain ⟨w8, hw8⟩ : ∃ x, (((((w7.setCell ⟨gx, 0, none⟩ (.slice xa xn xc)).setCell ⟨gx, 1, none⟩ (.slice ya yn yc)).setCell ⟨gx, 2, none⟩ (.bool dd)).setCell ⟨gx, 3, none⟩ (.int .i64 ai)).setCell ⟨gx, 4, none⟩ (.int .i64 dn)) = x := ⟨_, rfl⟩
        rw [hw8] at G nx8
        have c8 : Below wk.heap.size wk w8 := c7.grown G c7.size (fun i hi => by obtain rfl := Option.some.inj hi; exact HGX.out)
        have eb8 : w8.heap[gb]? = wk.heap[gb]? := c8.block gb HGB.out
        have hT8 := hT7.keptR G nx7
        go_simp
        refine hK.out _ _ (SX.out w8 eb8) (fun hH8 => ?_)
        clear hK K hw8 y0 y1 y2 y3 y4 fy G
        try simp only [List.getElem_toArray, List.getElem_cons_zero, List.getElem_cons_succ, Act.put, List.setIfInBounds_toArray, List.set_cons_zero, List.set_cons_succ]
        refine wpAnyH_done (by kernel_rfl) ?_ _
        have HO := oth_new HD.out HRR.out HN.out hT8 c8 nx8 HGX.out
        have HB9 := below_next HB.out c8
        go_wp2_with fail
        go_meet
        exact ⟨g', gs', cv', room, junk, gx, rfl, rfl, Nat.le_trans HD.out.size HGX.out, Lib.hid HO.1, Lib.hid HO.2.1, Lib.hid HO.2.2.1, Lib.hid HO.2.2.2, Lib.hid HB9⟩
      · obtain ⟨w6, hw6⟩ : ∃ x, w5.alloc (.cells #[.slice none 0 0, .slice none 0 0, .bool false, .int .i64 0, .int .i64 0] 28) = x := ⟨_, rfl⟩
        have d6 : Below w5.heap.size w5 w6 := by rw [← hw6]; exact below_box w5 _
        have nx6 : w6.heap[w5.heap.size]? = some (.cells zeroR 28 (0, 0)) := by rw [← hw6]; exact heap_alloc_new w5 _
        obtain ⟨gx, hgx⟩ : ∃ x, w5.heap.size = x := ⟨_, rfl⟩
        rw [hgx] at nx6
        have HGX : Hid (wk.heap.size ≤ gx) := Lib.hid (by rw [← hgx]; exact c5.size)
        have c6 : Below wk.heap.size wk w6 := below_next c5 d6
        have eb6 : w6.heap[gb]? = wk.heap[gb]? := c6.block gb HGB.out
        go_simp
        refine hK.out _ _ (SX.out w6 eb6) (fun hH6 => ?_)
        clear hK K hw6 d6
        try simp only [List.getElem_toArray, List.getElem_cons_zero, List.getElem_cons_succ, Act.put, List.setIfInBounds_toArray, List.set_cons_zero, List.set_cons_succ]
        refine wpAnyH_ready (rs := [1]) (by kernel_rfl) (by simp) ?_
        refine AllReadyH.cons rfl (fun K hK => ?_) AllReadyH.nil
        go_simp
        refine (twin_is (HD.out.more c6)).mono ?_
        rintro e w7 ⟨g', gs', cv', room, junk, rfl, hT, bT⟩
        have hT7 : IsDisk wk.heap.size w7 g' gs' cv' { D with room := room, junk := junk } := disk_less hT c6.size
        have c7 : Below wk.heap.size wk w7 := below_next c6 bT
        have eb7 : w7.heap[gb]? = wk.heap[gb]? := c7.block gb HGB.out
        have nx7 := (bT.block gx (Array.getElem?_eq_some_iff.1 nx6).1).trans nx6
        clear hT bT
        try dsimp only
        refine hK.out _ _ (SX.out w7 eb7) (fun hH7 => ?_)
        clear hK K
        try simp only [List.getElem_toArray, List.getElem_cons_zero, List.getElem_cons_succ, Act.put, List.setIfInBounds_toArray, List.set_cons_zero, List.set_cons_succ]
        refine wpAnyH_take (i := 4) (v := .pointer (some ⟨g', 0, none⟩)) rfl (by kernel_rfl) (by kernel_rfl) (by kernel_rfl) (fun _ _ _ h => h) (Or.inl ⟨by rfl, by intro W hSw; clear hSw; go_simp⟩) (by assumption) ?_
        try simp only [List.getElem_toArray, List.getElem_cons_zero, List.getElem_cons_succ, Act.put, List.setIfInBounds_toArray, List.set_cons_zero, List.set_cons_succ]
        refine wpAnyH_ready (rs := [5]) (by kernel_rfl) (by simp) ?_
        refine AllReadyH.cons rfl (fun K hK => ?_) AllReadyH.nil
        have y0 := cell_of_row nx7 0
        have y1 := cell_of_row nx7 1
        have y2 := cell_of_row nx7 2
        have y3 := cell_of_row nx7 3
        have y4 := cell_of_row nx7 4
        have fy := fun i => frozen_of_row w7 gx i _ _ nx7
        have G := (five_set (.slice xa xn xc) (.slice ya yn yc) (.bool dd) (.int .i64 ai) (.int .i64 dn) nx7).2
        have nx8 := five_heap (.slice xa xn xc) (.slice ya yn yc) (.bool dd) (.int .i64 ai) (.int .i64 dn) nx7
        obtain ⟨w8, hw8⟩ : ∃ x, (((((w7.setCell ⟨gx, 0, none⟩ (.slice xa xn xc)).setCell ⟨gx, 1, none⟩ (.slice ya yn yc)).setCell ⟨gx, 2, none⟩ (.bool dd)).setCell ⟨gx, 3, none⟩ (.int .i64 ai)).setCell ⟨gx, 4, none⟩ (.int .i64 dn)) = x := ⟨_, rfl⟩
        rw [hw8] at G nx8
        have c8 : Below wk.heap.size wk w8 := c7.grown G c7.size (fun i hi => by obtain rfl := Option.some.inj hi; exact HGX.out)
        have eb8 : w8.heap[gb]? = wk.heap[gb]? := c8.block gb HGB.out
        have hT8 := hT7.keptR G nx7
        go_simp
        refine hK.out _ _ (SX.out w8 eb8) (fun hH8 => ?_)
        clear hK K hw8 y0 y1 y2 y3 y4 fy G
        try simp only [List.getElem_toArray, List.getElem_cons_zero, List.getElem_cons_succ, Act.put, List.setIfInBounds_toArray, List.set_cons_zero, List.set_cons_succ]
        refine wpAnyH_done (by kernel_rfl) ?_ _
        have HO := oth_new HD.out HRR.out HN.out hT8 c8 nx8 HGX.out
        have HB9 := below_next HB.out c8
        go_wp2_with fail
        go_meet
        exact ⟨g', gs', cv', room, junk, gx, rfl, rfl, Nat.le_trans HD.out.size HGX.out, Lib.hid HO.1, Lib.hid HO.2.1, Lib.hid HO.2.2.1, Lib.hid HO.2.2.2, Lib.hid HB9⟩
    case rest =>
      obtain ⟨g', gs', cv', room, junk, gb2, rfl, rfl, hgb2, HO8, HD8, HR8, HN8, HB8⟩ := hcut
      clear HD HRR HN HB
      generalize wc = wk8 at *
      have HST : Hid (Still { D with room := room, junk := junk } ∧ ({ D with room := room, junk := junk } : DiskD).secs.length = 7) := Lib.hid HC.out
      have hde' : ({ D with room := room, junk := junk } : DiskD).deeds ≤ 20 := hde
      have hca' : ({ D with room := room, junk := junk } : DiskD).cache.length ≤ 20 := hca
      obtain ⟨A1, A2⟩ := alikeB_self D room junk
      have HSM1 := Lib.hid (fun (W : World) (hW : Below wk8.heap.size wk8 W) => same_is (HD8.out.more hW) (HO8.out.dk.more hW) rfl)
      have HSM2 := Lib.hid (fun (W : World) (hW : Below wk8.heap.size wk8 W) => same_is (HO8.out.dk.more hW) (HD8.out.more hW) rfl)
      generalize hE : ({ D with room := room, junk := junk } : DiskD) = E at *
      clear hE
      rw [A1] at HSM1
      rw [A2] at HSM2
      go_wp2_with fail
      refine (HSM1.out wk8 (Below.refl _ _)).mono ?_
      rintro e wk9 ⟨rfl, b9⟩
      go_wp2_with fail
      refine (HSM2.out wk9 b9).mono ?_
      rintro e wk10 ⟨rfl, b10⟩
      have b11 := below_next b9 b10
      have HO := Lib.hid (HO8.out.below b11)
      have HD := Lib.hid (HD8.out.more b11)
      have HRR := Lib.hid (HR8.out.below b11)
      have HN := Lib.hid ((b11.block gb (Array.getElem?_eq_some_iff.1 HN8.out).1).trans HN8.out)
      have HB := Lib.hid (below_next HB8.out b11)
      clear HO8 HD8 HR8 HN8 HB8 HSM1 HSM2 b9 b10 b11
      go_upto_block 2 with fail
      generalize xa = xa2 at HO
      generalize xn = xn2 at HO
      generalize xc = xc2 at HO
      generalize ya = ya2 at HO
      generalize yn = yn2 at HO
      generalize yc = yc2 at HO
      generalize dd = dd2 at HO
      generalize ai = ai2 at HO
      generalize dn = dn2 at HO
      go_cut [12] (fun _ wc => ∃ (D : DiskD) (cv : Value) (xa : Option Addr) (xn xc : Nat) (ya : Option Addr) (yn yc : Nat) (dd : Bool) (ai dn : Int), Hid (IsDisk w1.heap.size wc g gs cv D) ∧ Hid (RefIs w1.heap.size wc D (.agg #[.slice xa xn xc, .slice ya yn yc, .bool dd, .int .i64 ai, .int .i64 dn])) ∧ Hid (wc.heap[gb]? = some (.cells #[.slice xa xn xc, .slice ya yn yc, .bool dd, .int .i64 ai, .int .i64 dn] 28 (0, 0))) ∧ Hid (Below w.heap.size w wc) ∧ Hid (Still D ∧ D.secs.length = 7) ∧ D.deeds ≤ 32 ∧ D.cache.length ≤ 32 ∧ Hid (Oth w1.heap.size wc g gs cv gb g' gs' cv' E gb2 #[.slice xa2 xn2 xc2, .slice ya2 yn2 yc2, .bool dd2, .int .i64 ai2, .int .i64 dn2]))
      case first =>
        go_wp2_with fail
        go_loopw [12] (fun i wr => ∃ (j : Nat) (D : DiskD) (cv : Value) (xa : Option Addr) (xn xc : Nat) (ya : Option Addr) (yn yc : Nat) (dd : Bool) (ai dn : Int), j ≤ L1 ∧ j ≤ 12 ∧ i = .int .i64 (j : Int) ∧ Hid (IsDisk w1.heap.size wr g gs cv D) ∧ Hid (RefIs w1.heap.size wr D (.agg #[.slice xa xn xc, .slice ya yn yc, .bool dd, .int .i64 ai, .int .i64 dn])) ∧ Hid (wr.heap[gb]? = some (.cells #[.slice xa xn xc, .slice ya yn yc, .bool dd, .int .i64 ai, .int .i64 dn] 28 (0, 0))) ∧ Hid (Below w.heap.size w wr) ∧ Hid (Still D ∧ D.secs.length = 7) ∧ D.deeds ≤ 20 + j ∧ D.cache.length ≤ 20 + j ∧ Hid (Oth w1.heap.size wr g gs cv gb g' gs' cv' E gb2 #[.slice xa2 xn2 xc2, .slice ya2 yn2 yc2, .bool dd2, .int .i64 ai2, .int .i64 dn2])) (fun i _ => 12 - (intOf i).toNat)
        case atStart => exact ⟨0, _, _, _, _, _, _, _, _, _, _, _, Nat.zero_le _, by decide, rfl, HD, HRR, HN, HB, HC, by omega, by omega, HO⟩
        case round =>
          obtain ⟨j, D, cv, xa, xn, xc, ya, yn, yc, dd, ai, dn, hj1, hj2, rfl, HD, HRR, HN, HB, HC, hde, hca, HO⟩ := hrel
          by_cases hlt : j < L1
          · by_cases h20 : j < 12
            · obtain ⟨⟨kd, at_, sa, sn, sc, ka1, kn1, kc1, S, ks1⟩, hx⟩ : ∃ x, l1[j]? = some x := ⟨_, List.getElem?_eq_getElem (by rw [HLN1.out]; exact hlt)⟩
              obtain ⟨p1, p2, ⟨p3, p4⟩, p5, p6⟩ := HF1.out _ (List.mem_of_getElem? hx)
              dsimp only at p1 p2 p3 p4 p5 p6
              obtain ⟨b, off, rfl, hb, hc⟩ := (HR1.out.below HB.out).row (rowsOf_get hx)
              have c0 : wr.cell? ⟨b, off + j * 4, none⟩ = some (.int .i64 kd) := hc 0 _ rfl
              have c1 : wr.cell? ⟨b, off + j * 4 + 1, none⟩ = some (.int .i64 at_) := by have := hc 1 _ rfl; rwa [← Nat.add_assoc] at this
              have c2 : wr.cell? ⟨b, off + j * 4 + 2, none⟩ = some (.slice sa sn sc) := by have := hc 2 _ rfl; rwa [← Nat.add_assoc] at this
              have c3 : wr.cell? ⟨b, off + j * 4 + 3, none⟩ = some (.slice ka1 kn1 kc1) := by have := hc 3 _ rfl; rwa [← Nat.add_assoc] at this
              have hx1 : (0 : Int) ≤ (j : Int) := by omega
              have hx2 : (j : Int) < (L1 : Int) := by omega
              have hx3 : (j : Int) < 12 := by omega
              have hsB : S ≠ [] → ∀ y, sa = some y → y.block < w1.heap.size := fun hne y hy => by
                rcases p3.2.2 with h0 | ⟨b9, o9, he, hb9, _⟩
                · exact absurd h0 hne
                · rw [hy] at he
                  have := Option.some.inj he
                  have h9 := HW1.out
                  rw [this]
                  show b9 < _
                  omega
              have hkB : ks1 ≠ [] → ∀ y, ka1 = some y → y.block < w1.heap.size := fun hne y hy => by
                rcases p5.2 with h0 | ⟨b9, o9, he, hb9, _⟩
                · exact absurd h0 hne
                · rw [hy] at he
                  have := Option.some.inj he
                  have h9 := HW1.out
                  rw [this]
                  show b9 < _
                  omega
              have HDOF := Lib.hid (fun (W : World) (hW : Below wr.heap.size wr W) => do3_is (HD.out.more hW) (HRR.out.below hW) (by omega) (by omega) kd at_ sa sn sc S (p3.below (below_next HB.out hW)) p3.2.1 p4 hsB ka1 kn1 kc1 ks1 (readsB_below p5 (below_next HB.out hW)) p6 hkB p2.2)
              have NGB := Lib.hid (rbox_ne HD.out HN.out)
              have HBB : Hid (b < w1.heap.size) := Lib.hid (by have := HRB1.out b off rfl (by intro h0; rw [h0] at hx; cases hx); have := HW1.out; omega)
              have HWR : Hid (w1.heap.size ≤ wr.heap.size) := Lib.hid HD.out.size
              have SX : Hid (∀ W : World, W.heap[b]? = wr.heap[b]? → (W.cell? ⟨b, off + j * 4, none⟩ = some (.int .i64 kd) ∧ W.cell? ⟨b, off + j * 4 + 1, none⟩ = some (.int .i64 at_) ∧ W.cell? ⟨b, off + j * 4 + 2, none⟩ = some (.slice sa sn sc) ∧ W.cell? ⟨b, off + j * 4 + 3, none⟩ = some (.slice ka1 kn1 kc1))) := Lib.hid (fun W e1 => ⟨(World.cell?_of_block (w := wr) (a := ⟨b, off + j * 4, none⟩) e1).trans c0, (World.cell?_of_block (w := wr) (a := ⟨b, off + j * 4 + 1, none⟩) e1).trans c1, (World.cell?_of_block (w := wr) (a := ⟨b, off + j * 4 + 2, none⟩) e1).trans c2, (World.cell?_of_block (w := wr) (a := ⟨b, off + j * 4 + 3, none⟩) e1).trans c3⟩)
              have HLT := Lib.hid hlt
              have HJ4 := Lib.hid h20
              have HDC := Lib.hid (And.intro hde hca)
              clear p1 p2 p3 p4 p5 p6 hsB hkB hc hx hb hlt h20
              go_wp2_with fail
              clear c0 c1 c2 c3
              refine wp_region_held_drew (S := fun W => (W.cell? ⟨b, off + j * 4, none⟩ = some (.int .i64 kd) ∧ W.cell? ⟨b, off + j * 4 + 1, none⟩ = some (.int .i64 at_) ∧ W.cell? ⟨b, off + j * 4 + 2, none⟩ = some (.slice sa sn sc) ∧ W.cell? ⟨b, off + j * 4 + 3, none⟩ = some (.slice ka1 kn1 kc1))) (by kernel_rfl) (SX.out wr.drew rfl) (fun hHeld => ?_)
              obtain ⟨w5, hw5⟩ : ∃ x, wr.drew = x := ⟨_, rfl⟩
              have c5 : Below wr.heap.size wr w5 := by rw [← hw5]; exact (Below.refl _ _).drew
              have ea5 : w5.heap[b]? = wr.heap[b]? := by rw [← hw5]; rfl
              have n5 : w5.heap[gb]? = some (.cells #[.slice xa xn xc, .slice ya yn yc, .bool dd, .int .i64 ai, .int .i64 dn] 28 (0, 0)) := by rw [← hw5]; exact HN.out
              have HN5 := Lib.hid n5
              have x0 : w5.cell? ⟨gb, 0, none⟩ = some (.slice xa xn xc) := cell_of_row n5 0
              have x1 : w5.cell? ⟨gb, 1, none⟩ = some (.slice ya yn yc) := cell_of_row n5 1
              have x2 : w5.cell? ⟨gb, 2, none⟩ = some (.bool dd) := cell_of_row n5 2
              have x3 : w5.cell? ⟨gb, 3, none⟩ = some (.int .i64 ai) := cell_of_row n5 3
              have x4 : w5.cell? ⟨gb, 4, none⟩ = some (.int .i64 dn) := cell_of_row n5 4
              have s5 := c5.size
              rw [hw5] at hHeld ⊢
              clear hw5 n5
              refine wpAnyH_take (i := 0) (v := .pointer (some ⟨g, 0, none⟩)) rfl (by kernel_rfl) (by kernel_rfl) (by kernel_rfl) (fun _ _ _ h => h) (Or.inl ⟨by rfl, by intro W hSw; clear hSw; go_simp⟩) (by assumption) ?_
              try simp only [List.getElem_toArray, List.getElem_cons_zero, List.getElem_cons_succ, Act.put, List.setIfInBounds_toArray, List.set_cons_zero, List.set_cons_succ]
              refine wpAnyH_take (i := 2) (v := .slice (some ⟨b, off, none⟩) L1 cap1) rfl (by kernel_rfl) (by kernel_rfl) (by kernel_rfl) (fun _ _ _ h => h) (Or.inl ⟨by rfl, by intro W hSw; clear hSw; go_simp⟩) (by assumption) ?_
              try simp only [List.getElem_toArray, List.getElem_cons_zero, List.getElem_cons_succ, Act.put, List.setIfInBounds_toArray, List.set_cons_zero, List.set_cons_succ]
              refine wpAnyH_take (i := 3) (v := .int .i64 (j : Int)) rfl (by kernel_rfl) (by kernel_rfl) (by kernel_rfl) (fun _ _ _ h => h) (Or.inl ⟨by rfl, by intro W hSw; clear hSw; go_simp⟩) (by assumption) ?_
              try simp only [List.getElem_toArray, List.getElem_cons_zero, List.getElem_cons_succ, Act.put, List.setIfInBounds_toArray, List.set_cons_zero, List.set_cons_succ]
              refine wpAnyH_take (i := 4) (v := .pointer (some ⟨b, off + j * 4, none⟩)) rfl (by kernel_rfl) (by kernel_rfl) (by kernel_rfl) (fun _ _ _ h => h) (Or.inl ⟨by rfl, by intro W hSw; clear hSw; go_simp⟩) (by assumption) ?_
              try simp only [List.getElem_toArray, List.getElem_cons_zero, List.getElem_cons_succ, Act.put, List.setIfInBounds_toArray, List.set_cons_zero, List.set_cons_succ]
              refine wpAnyH_take (i := 5) (v := .agg #[.int .i64 kd, .int .i64 at_, .slice sa sn sc, .slice ka1 kn1 kc1]) rfl (by kernel_rfl) (by kernel_rfl) (by kernel_rfl) (fun _ _ _ h => h) (Or.inl ⟨by rfl, by intro W hSw; obtain ⟨q5, q6, q7, q8⟩ := hSw; go_simp⟩) (by assumption) ?_
              try simp only [List.getElem_toArray, List.getElem_cons_zero, List.getElem_cons_succ, Act.put, List.setIfInBounds_toArray, List.set_cons_zero, List.set_cons_succ]
              refine wpAnyH_ready (rs := [1]) (by kernel_rfl) (by simp) ?_
              refine AllReadyH.cons rfl (fun K hK => ?_) AllReadyH.nil
              go_simp
              refine hK.out _ _ hHeld (fun hH5 => ?_)
              clear hK K x0 x1 x2 x3 x4
              try simp only [List.getElem_toArray, List.getElem_cons_zero, List.getElem_cons_succ, Act.put, List.setIfInBounds_toArray, List.set_cons_zero, List.set_cons_succ]
              refine wpAnyH_ready (rs := [6]) (by kernel_rfl) (by simp) ?_
              refine AllReadyH.cons rfl (fun K hK => ?_) AllReadyH.nil
              go_simp
              refine (HDOF.out w5 c5).mono ?_
              rintro e w6 ⟨D4, cv4, v4, rfl, hd6, hr6, hb4, hk4, h41, h42, h43, h44, h45⟩
              obtain ⟨xa4, xn4, xc4, ya4, yn4, yc4, dd4, ai4, dn4, rfl⟩ := ref_agg hr6
              have n6 := (hk4.block gb (Array.getElem?_eq_some_iff.1 HN5.out).1 NGB.out.1 NGB.out.2.1 NGB.out.2.2).trans HN5.out
              have ea6 : w6.heap[b]? = wr.heap[b]? := (hb4.block b (by have := HBB.out; omega)).trans ea5
              have bb6 : Below w1.heap.size wr w6 := (c5.mono HWR.out).trans hb4
              dsimp only
              refine hK.out _ _ (SX.out w6 ea6) (fun hH6 => ?_)
              clear hK K
              try simp only [List.getElem_toArray, List.getElem_cons_zero, List.getElem_cons_succ, Act.put, List.setIfInBounds_toArray, List.set_cons_zero, List.set_cons_succ]
              refine wpAnyH_take (i := 7) (v := .tuple #[.agg #[.slice xa4 xn4 xc4, .slice ya4 yn4 yc4, .bool dd4, .int .i64 ai4, .int .i64 dn4], .bool true]) rfl (by kernel_rfl) (by kernel_rfl) (by kernel_rfl) (fun _ _ _ h => h) (Or.inl ⟨by rfl, by intro W hSw; clear hSw; go_simp⟩) (by assumption) ?_
              try simp only [List.getElem_toArray, List.getElem_cons_zero, List.getElem_cons_succ, Act.put, List.setIfInBounds_toArray, List.set_cons_zero, List.set_cons_succ]
              refine wpAnyH_take (i := 8) (v := .agg #[.slice xa4 xn4 xc4, .slice ya4 yn4 yc4, .bool dd4, .int .i64 ai4, .int .i64 dn4]) rfl (by kernel_rfl) (by kernel_rfl) (by kernel_rfl) (fun _ _ _ h => h) (Or.inl ⟨by rfl, by intro W hSw; clear hSw; go_simp⟩) (by assumption) ?_
              try simp only [List.getElem_toArray, List.getElem_cons_zero, List.getElem_cons_succ, Act.put, List.setIfInBounds_toArray, List.set_cons_zero, List.set_cons_succ]
              refine wpAnyH_take (i := 9) (v := .bool true) rfl (by kernel_rfl) (by kernel_rfl) (by kernel_rfl) (fun _ _ _ h => h) (Or.inl ⟨by rfl, by intro W hSw; clear hSw; go_simp⟩) (by assumption) ?_
              try simp only [List.getElem_toArray, List.getElem_cons_zero, List.getElem_cons_succ, Act.put, List.setIfInBounds_toArray, List.set_cons_zero, List.set_cons_succ]
              have y0 := cell_of_row n6 0
              have y1 := cell_of_row n6 1
              have y2 := cell_of_row n6 2
              have y3 := cell_of_row n6 3
              have y4 := cell_of_row n6 4
              have fy := fun i => frozen_of_row w6 gb i _ _ n6
              have G := (five_set (.slice xa4 xn4 xc4) (.slice ya4 yn4 yc4) (.bool dd4) (.int .i64 ai4) (.int .i64 dn4) n6).2
              have nz := five_heap (.slice xa4 xn4 xc4) (.slice ya4 yn4 yc4) (.bool dd4) (.int .i64 ai4) (.int .i64 dn4) n6
              obtain ⟨w9, hw9⟩ : ∃ x, (((((w6.setCell ⟨gb, 0, none⟩ (.slice xa4 xn4 xc4)).setCell ⟨gb, 1, none⟩ (.slice ya4 yn4 yc4)).setCell ⟨gb, 2, none⟩ (.bool dd4)).setCell ⟨gb, 3, none⟩ (.int .i64 ai4)).setCell ⟨gb, 4, none⟩ (.int .i64 dn4)) = x := ⟨_, rfl⟩
              rw [hw9] at G nz
              have hbg : b ≠ gb := by have := HBB.out; omega
              have ea9 : w9.heap[b]? = wr.heap[b]? := (G.block b (by have h1 := HBB.out; have h2 := bb6.size; have h3 := HWR.out; omega) (by intro e; exact hbg (Option.some.inj e))).trans ea6
              have HO9 := Lib.hid (((HO.out.below c5).step (HD.out.more c5) hk4 h45).box G n6)
              have HD9 := Lib.hid (hd6.keptR G n6)
              have HR9 := Lib.hid (hr6.keptR G n6)
              have HB9 : Hid (Below w.heap.size w w9) := Lib.hid (by
                have h1 := HB.out.trans (bb6.mono HW1.out)
                exact h1.grown G h1.size (fun i hi => by obtain rfl := Option.some.inj hi; have := HW1.out; omega))
              have NZ := Lib.hid nz
              have HC9 : Hid (Still D4 ∧ D4.secs.length = 7) := Lib.hid ⟨h44.2 HC.out.1, h41.trans HC.out.2⟩
              have HDC9 := Lib.hid (And.intro h42 h43)
              refine wpAnyH_ready (rs := [10]) (by kernel_rfl) (by simp) ?_
              refine AllReadyH.cons rfl (fun K hK => ?_) AllReadyH.nil
              go_simp
              refine hK.out _ _ (SX.out w9 ea9) (fun hH9 => ?_)
              clear hK K hw9 y0 y1 y2 y3 y4 fy nz G ea9 ea6 n6 bb6 hd6 hr6 hb4 hk4 h41 h42 h43 h44 h45
              try simp only [List.getElem_toArray, List.getElem_cons_zero, List.getElem_cons_succ, Act.put, List.setIfInBounds_toArray, List.set_cons_zero, List.set_cons_succ]
              refine wpAnyH_done (by kernel_rfl) ?_ _
              clear hH9 hH6 hH5 hHeld
              go_wp2
              have h1 := HLT.out
              have h2 := HJ4.out
              go_roundw
              case rel => exact ⟨j + 1, D4, cv4, xa4, xn4, xc4, ya4, yn4, yc4, dd4, ai4, dn4, HLT.out, HJ4.out, by go_num, HD9, HR9, NZ, HB9, HC9, by have := HDC9.out.2; have := HDC.out.1; omega, by have := HDC9.out.1; have := HDC.out.2; omega, HO9⟩
              case measure => simp [intOf]; omega
            · have hx2 : (j : Int) < (L1 : Int) := by omega
              have hx3 : ¬ (j : Int) < 12 := by omega
              go_wp2_with fail
              go_meet
              exact ⟨D, cv, xa, xn, xc, ya, yn, yc, dd, ai, dn, HD, HRR, HN, HB, HC, by omega, by omega, HO⟩
          · have hx2 : ¬ (j : Int) < (L1 : Int) := by omega
            go_wp2_with fail
            go_meet
            exact ⟨D, cv, xa, xn, xc, ya, yn, yc, dd, ai, dn, HD, HRR, HN, HB, HC, by omega, by omega, HO⟩
      case rest =>
        clear HD HRR HN HB HC hde hca HO
        obtain ⟨D, cv, xa, xn, xc, ya, yn, yc, dd, ai, dn, HDa, HRa, HNa, HBa, HCa, hdea, hcaa, HOa⟩ := hcut
        generalize wc = wm at *
        obtain ⟨hswap, HD, HRR, HN⟩ : Hid (Oth w1.heap.size wm g' gs' cv' gb2 g gs cv D gb #[.slice xa xn xc, .slice ya yn yc, .bool dd, .int .i64 ai, .int .i64 dn]) ∧ Hid (IsDisk w1.heap.size wm g' gs' cv' E) ∧ Hid (RefIs w1.heap.size wm E (.agg #[.slice xa2 xn2 xc2, .slice ya2 yn2 yc2, .bool dd2, .int .i64 ai2, .int .i64 dn2])) ∧ Hid (wm.heap[gb2]? = some (.cells #[.slice xa2 xn2 xc2, .slice ya2 yn2 yc2, .bool dd2, .int .i64 ai2, .int .i64 dn2] 28 (0, 0))) := ⟨Lib.hid (HOa.out.swap HDa.out HRa.out HNa.out), Lib.hid HOa.out.dk, Lib.hid HOa.out.rf, Lib.hid HOa.out.bx⟩
        have HO := hswap
        have HB := HBa
        have HC := HST
        have hde := hde'
        have hca := hca'
        clear hswap HDa HRa HNa HBa hde' hca' HST HOa
        go_upto_block 4 with fail
        generalize D = D2 at *
        generalize cv = cv2 at *
        go_cut [13] (fun _ wc => ∃ (D : DiskD) (cv : Value) (xa3 : Option Addr) (xn3 xc3 : Nat) (ya3 : Option Addr) (yn3 yc3 : Nat) (dd3 : Bool) (ai3 dn3 : Int), Hid (IsDisk w1.heap.size wc g' gs' cv D) ∧ Hid (RefIs w1.heap.size wc D (.agg #[.slice xa3 xn3 xc3, .slice ya3 yn3 yc3, .bool dd3, .int .i64 ai3, .int .i64 dn3])) ∧ Hid (wc.heap[gb2]? = some (.cells #[.slice xa3 xn3 xc3, .slice ya3 yn3 yc3, .bool dd3, .int .i64 ai3, .int .i64 dn3] 28 (0, 0))) ∧ Hid (Below w.heap.size w wc) ∧ Hid (Still D ∧ D.secs.length = 7) ∧ D.deeds ≤ 32 ∧ D.cache.length ≤ 32 ∧ Hid (Oth w1.heap.size wc g' gs' cv gb2 g gs cv2 D2 gb #[.slice xa xn xc, .slice ya yn yc, .bool dd, .int .i64 ai, .int .i64 dn]))
        case first =>
          go_wp2_with fail
          go_loopw [13] (fun i wr => ∃ (j : Nat) (D : DiskD) (cv : Value) (xa3 : Option Addr) (xn3 xc3 : Nat) (ya3 : Option Addr) (yn3 yc3 : Nat) (dd3 : Bool) (ai3 dn3 : Int), j ≤ L2 ∧ j ≤ 12 ∧ i = .int .i64 (j : Int) ∧ Hid (IsDisk w1.heap.size wr g' gs' cv D) ∧ Hid (RefIs w1.heap.size wr D (.agg #[.slice xa3 xn3 xc3, .slice ya3 yn3 yc3, .bool dd3, .int .i64 ai3, .int .i64 dn3])) ∧ Hid (wr.heap[gb2]? = some (.cells #[.slice xa3 xn3 xc3, .slice ya3 yn3 yc3, .bool dd3, .int .i64 ai3, .int .i64 dn3] 28 (0, 0))) ∧ Hid (Below w.heap.size w wr) ∧ Hid (Still D ∧ D.secs.length = 7) ∧ D.deeds ≤ 20 + j ∧ D.cache.length ≤ 20 + j ∧ Hid (Oth w1.heap.size wr g' gs' cv gb2 g gs cv2 D2 gb #[.slice xa xn xc, .slice ya yn yc, .bool dd, .int .i64 ai, .int .i64 dn])) (fun i _ => 12 - (intOf i).toNat)
          case atStart => exact ⟨0, _, _, _, _, _, _, _, _, _, _, _, Nat.zero_le _, by decide, rfl, HD, HRR, HN, HB, HC, by omega, by omega, HO⟩
          case round =>
            obtain ⟨j, D, cv, xa3, xn3, xc3, ya3, yn3, yc3, dd3, ai3, dn3, hj1, hj2, rfl, HD, HRR, HN, HB, HC, hde, hca, HO⟩ := hrel
            by_cases hlt : j < L2
            · by_cases h20 : j < 12
              · obtain ⟨⟨kd, at_, sa, sn, sc, ka1, kn1, kc1, S, ks1⟩, hx⟩ : ∃ x, l2[j]? = some x := ⟨_, List.getElem?_eq_getElem (by rw [HLN2.out]; exact hlt)⟩
                obtain ⟨p1, p2, ⟨p3, p4⟩, p5, p6⟩ := HF2.out _ (List.mem_of_getElem? hx)
                dsimp only at p1 p2 p3 p4 p5 p6
                obtain ⟨b, off, rfl, hb, hc⟩ := (HR2.out.below HB.out).row (rowsOf_get hx)
                have c0 : wr.cell? ⟨b, off + j * 4, none⟩ = some (.int .i64 kd) := hc 0 _ rfl
                have c1 : wr.cell? ⟨b, off + j * 4 + 1, none⟩ = some (.int .i64 at_) := by have := hc 1 _ rfl; rwa [← Nat.add_assoc] at this
                have c2 : wr.cell? ⟨b, off + j * 4 + 2, none⟩ = some (.slice sa sn sc) := by have := hc 2 _ rfl; rwa [← Nat.add_assoc] at this
                have c3 : wr.cell? ⟨b, off + j * 4 + 3, none⟩ = some (.slice ka1 kn1 kc1) := by have := hc 3 _ rfl; rwa [← Nat.add_assoc] at this
                have hx1 : (0 : Int) ≤ (j : Int) := by omega
                have hx2 : (j : Int) < (L2 : Int) := by omega
                have hx3 : (j : Int) < 12 := by omega
                have hsB : S ≠ [] → ∀ y, sa = some y → y.block < w1.heap.size := fun hne y hy => by
                  rcases p3.2.2 with h0 | ⟨b9, o9, he, hb9, _⟩
                  · exact absurd h0 hne
                  · rw [hy] at he
                    have := Option.some.inj he
                    have h9 := HW1.out
                    rw [this]
                    show b9 < _
                    omega
                have hkB : ks1 ≠ [] → ∀ y, ka1 = some y → y.block < w1.heap.size := fun hne y hy => by
                  rcases p5.2 with h0 | ⟨b9, o9, he, hb9, _⟩
                  · exact absurd h0 hne
                  · rw [hy] at he
                    have := Option.some.inj he
                    have h9 := HW1.out
                    rw [this]
                    show b9 < _
                    omega
                have HDOF := Lib.hid (fun (W : World) (hW : Below wr.heap.size wr W) => do3_is (HD.out.more hW) (HRR.out.below hW) (by omega) (by omega) kd at_ sa sn sc S (p3.below (below_next HB.out hW)) p3.2.1 p4 hsB ka1 kn1 kc1 ks1 (readsB_below p5 (below_next HB.out hW)) p6 hkB p2.2)
                have NGB := Lib.hid (rbox_ne HD.out HN.out)
                have HBB : Hid (b < w1.heap.size) := Lib.hid (by have := HRB2.out b off rfl (by intro h0; rw [h0] at hx; cases hx); have := HW1.out; omega)
                have HWR : Hid (w1.heap.size ≤ wr.heap.size) := Lib.hid HD.out.size
                have SX : Hid (∀ W : World, W.heap[b]? = wr.heap[b]? → (W.cell? ⟨b, off + j * 4, none⟩ = some (.int .i64 kd) ∧ W.cell? ⟨b, off + j * 4 + 1, none⟩ = some (.int .i64 at_) ∧ W.cell? ⟨b, off + j * 4 + 2, none⟩ = some (.slice sa sn sc) ∧ W.cell? ⟨b, off + j * 4 + 3, none⟩ = some (.slice ka1 kn1 kc1))) := Lib.hid (fun W e1 => ⟨(World.cell?_of_block (w := wr) (a := ⟨b, off + j * 4, none⟩) e1).trans c0, (World.cell?_of_block (w := wr) (a := ⟨b, off + j * 4 + 1, none⟩) e1).trans c1, (World.cell?_of_block (w := wr) (a := ⟨b, off + j * 4 + 2, none⟩) e1).trans c2, (World.cell?_of_block (w := wr) (a := ⟨b, off + j * 4 + 3, none⟩) e1).trans c3⟩)
                have HLT := Lib.hid hlt
                have HJ4 := Lib.hid h20
                have HDC := Lib.hid (And.intro hde hca)
                clear p1 p2 p3 p4 p5 p6 hsB hkB hc hx hb hlt h20
                go_wp2_with fail
                clear c0 c1 c2 c3
                refine wp_region_held_drew (S := fun W => (W.cell? ⟨b, off + j * 4, none⟩ = some (.int .i64 kd) ∧ W.cell? ⟨b, off + j * 4 + 1, none⟩ = some (.int .i64 at_) ∧ W.cell? ⟨b, off + j * 4 + 2, none⟩ = some (.slice sa sn sc) ∧ W.cell? ⟨b, off + j * 4 + 3, none⟩ = some (.slice ka1 kn1 kc1))) (by kernel_rfl) (SX.out wr.drew rfl) (fun hHeld => ?_)
                obtain ⟨w5, hw5⟩ : ∃ x, wr.drew = x := ⟨_, rfl⟩
                have c5 : Below wr.heap.size wr w5 := by rw [← hw5]; exact (Below.refl _ _).drew
                have ea5 : w5.heap[b]? = wr.heap[b]? := by rw [← hw5]; rfl
                have n5 : w5.heap[gb2]? = some (.cells #[.slice xa3 xn3 xc3, .slice ya3 yn3 yc3, .bool dd3, .int .i64 ai3, .int .i64 dn3] 28 (0, 0)) := by rw [← hw5]; exact HN.out
                have HN5 := Lib.hid n5
                have x0 : w5.cell? ⟨gb2, 0, none⟩ = some (.slice xa3 xn3 xc3) := cell_of_row n5 0
                have x1 : w5.cell? ⟨gb2, 1, none⟩ = some (.slice ya3 yn3 yc3) := cell_of_row n5 1
                have x2 : w5.cell? ⟨gb2, 2, none⟩ = some (.bool dd3) := cell_of_row n5 2
                have x3 : w5.cell? ⟨gb2, 3, none⟩ = some (.int .i64 ai3) := cell_of_row n5 3
                have x4 : w5.cell? ⟨gb2, 4, none⟩ = some (.int .i64 dn3) := cell_of_row n5 4
                have s5 := c5.size
                rw [hw5] at hHeld ⊢
                clear hw5 n5
                refine wpAnyH_take (i := 0) (v := .pointer (some ⟨g', 0, none⟩)) rfl (by kernel_rfl) (by kernel_rfl) (by kernel_rfl) (fun _ _ _ h => h) (Or.inl ⟨by rfl, by intro W hSw; clear hSw; go_simp⟩) (by assumption) ?_
                try simp only [List.getElem_toArray, List.getElem_cons_zero, List.getElem_cons_succ, Act.put, List.setIfInBounds_toArray, List.set_cons_zero, List.set_cons_succ]
                refine wpAnyH_take (i := 2) (v := .slice (some ⟨b, off, none⟩) L2 cap2) rfl (by kernel_rfl) (by kernel_rfl) (by kernel_rfl) (fun _ _ _ h => h) (Or.inl ⟨by rfl, by intro W hSw; clear hSw; go_simp⟩) (by assumption) ?_
                try simp only [List.getElem_toArray, List.getElem_cons_zero, List.getElem_cons_succ, Act.put, List.setIfInBounds_toArray, List.set_cons_zero, List.set_cons_succ]
                refine wpAnyH_take (i := 3) (v := .int .i64 (j : Int)) rfl (by kernel_rfl) (by kernel_rfl) (by kernel_rfl) (fun _ _ _ h => h) (Or.inl ⟨by rfl, by intro W hSw; clear hSw; go_simp⟩) (by assumption) ?_
                try simp only [List.getElem_toArray, List.getElem_cons_zero, List.getElem_cons_succ, Act.put, List.setIfInBounds_toArray, List.set_cons_zero, List.set_cons_succ]
                refine wpAnyH_take (i := 4) (v := .pointer (some ⟨b, off + j * 4, none⟩)) rfl (by kernel_rfl) (by kernel_rfl) (by kernel_rfl) (fun _ _ _ h => h) (Or.inl ⟨by rfl, by intro W hSw; clear hSw; go_simp⟩) (by assumption) ?_
                try simp only [List.getElem_toArray, List.getElem_cons_zero, List.getElem_cons_succ, Act.put, List.setIfInBounds_toArray, List.set_cons_zero, List.set_cons_succ]
                refine wpAnyH_take (i := 5) (v := .agg #[.int .i64 kd, .int .i64 at_, .slice sa sn sc, .slice ka1 kn1 kc1]) rfl (by kernel_rfl) (by kernel_rfl) (by kernel_rfl) (fun _ _ _ h => h) (Or.inl ⟨by rfl, by intro W hSw; obtain ⟨q5, q6, q7, q8⟩ := hSw; go_simp⟩) (by assumption) ?_
                try simp only [List.getElem_toArray, List.getElem_cons_zero, List.getElem_cons_succ, Act.put, List.setIfInBounds_toArray, List.set_cons_zero, List.set_cons_succ]
                refine wpAnyH_ready (rs := [1]) (by kernel_rfl) (by simp) ?_
                refine AllReadyH.cons rfl (fun K hK => ?_) AllReadyH.nil
                go_simp
                refine hK.out _ _ hHeld (fun hH5 => ?_)
                clear hK K x0 x1 x2 x3 x4
                try simp only [List.getElem_toArray, List.getElem_cons_zero, List.getElem_cons_succ, Act.put, List.setIfInBounds_toArray, List.set_cons_zero, List.set_cons_succ]
                refine wpAnyH_ready (rs := [6]) (by kernel_rfl) (by simp) ?_
                refine AllReadyH.cons rfl (fun K hK => ?_) AllReadyH.nil
                go_simp
                refine (HDOF.out w5 c5).mono ?_
                rintro e w6 ⟨D4, cv4, v4, rfl, hd6, hr6, hb4, hk4, h41, h42, h43, h44, h45⟩
                obtain ⟨xa4, xn4, xc4, ya4, yn4, yc4, dd4, ai4, dn4, rfl⟩ := ref_agg hr6
                have n6 := (hk4.block gb2 (Array.getElem?_eq_some_iff.1 HN5.out).1 NGB.out.1 NGB.out.2.1 NGB.out.2.2).trans HN5.out
                have ea6 : w6.heap[b]? = wr.heap[b]? := (hb4.block b (by have := HBB.out; omega)).trans ea5
                have bb6 : Below w1.heap.size wr w6 := (c5.mono HWR.out).trans hb4
                dsimp only
                refine hK.out _ _ (SX.out w6 ea6) (fun hH6 => ?_)
                clear hK K
                try simp only [List.getElem_toArray, List.getElem_cons_zero, List.getElem_cons_succ, Act.put, List.setIfInBounds_toArray, List.set_cons_zero, List.set_cons_succ]
                refine wpAnyH_take (i := 7) (v := .tuple #[.agg #[.slice xa4 xn4 xc4, .slice ya4 yn4 yc4, .bool dd4, .int .i64 ai4, .int .i64 dn4], .bool true]) rfl (by kernel_rfl) (by kernel_rfl) (by kernel_rfl) (fun _ _ _ h => h) (Or.inl ⟨by rfl, by intro W hSw; clear hSw; go_simp⟩) (by assumption) ?_
                try simp only [List.getElem_toArray, List.getElem_cons_zero, List.getElem_cons_succ, Act.put, List.setIfInBounds_toArray, List.set_cons_zero, List.set_cons_succ]
                refine wpAnyH_take (i := 8) (v := .agg #[.slice xa4 xn4 xc4, .slice ya4 yn4 yc4, .bool dd4, .int .i64 ai4, .int .i64 dn4]) rfl (by kernel_rfl) (by kernel_rfl) (by kernel_rfl) (fun _ _ _ h => h) (Or.inl ⟨by rfl, by intro W hSw; clear hSw; go_simp⟩) (by assumption) ?_
                try simp only [List.getElem_toArray, List.getElem_cons_zero, List.getElem_cons_succ, Act.put, List.setIfInBounds_toArray, List.set_cons_zero, List.set_cons_succ]
                refine wpAnyH_take (i := 9) (v := .bool true) rfl (by kernel_rfl) (by kernel_rfl) (by kernel_rfl) (fun _ _ _ h => h) (Or.inl ⟨by rfl, by intro W hSw; clear hSw; go_simp⟩) (by assumption) ?_
                try simp only [List.getElem_toArray, List.getElem_cons_zero, List.getElem_cons_succ, Act.put, List.setIfInBounds_toArray, List.set_cons_zero, List.set_cons_succ]
                have y0 := cell_of_row n6 0
                have y1 := cell_of_row n6 1
                have y2 := cell_of_row n6 2
                have y3 := cell_of_row n6 3
                have y4 := cell_of_row n6 4
                have fy := fun i => frozen_of_row w6 gb2 i _ _ n6
                have G := (five_set (.slice xa4 xn4 xc4) (.slice ya4 yn4 yc4) (.bool dd4) (.int .i64 ai4) (.int .i64 dn4) n6).2
                have nz := five_heap (.slice xa4 xn4 xc4) (.slice ya4 yn4 yc4) (.bool dd4) (.int .i64 ai4) (.int .i64 dn4) n6
                obtain ⟨w9, hw9⟩ : ∃ x, (((((w6.setCell ⟨gb2, 0, none⟩ (.slice xa4 xn4 xc4)).setCell ⟨gb2, 1, none⟩ (.slice ya4 yn4 yc4)).setCell ⟨gb2, 2, none⟩ (.bool dd4)).setCell ⟨gb2, 3, none⟩ (.int .i64 ai4)).setCell ⟨gb2, 4, none⟩ (.int .i64 dn4)) = x := ⟨_, rfl⟩
                rw [hw9] at G nz
                have hbg : b ≠ gb2 := by have := HBB.out; omega
                have ea9 : w9.heap[b]? = wr.heap[b]? := (G.block b (by have h1 := HBB.out; have h2 := bb6.size; have h3 := HWR.out; omega) (by intro e; exact hbg (Option.some.inj e))).trans ea6
                have HO9 := Lib.hid (((HO.out.below c5).step (HD.out.more c5) hk4 h45).box G n6)
                have HD9 := Lib.hid (hd6.keptR G n6)
                have HR9 := Lib.hid (hr6.keptR G n6)
                have HB9 : Hid (Below w.heap.size w w9) := Lib.hid (by
                  have h1 := HB.out.trans (bb6.mono HW1.out)
                  exact h1.grown G h1.size (fun i hi => by obtain rfl := Option.some.inj hi; have := HW1.out; omega))
                have NZ := Lib.hid nz
                have HC9 : Hid (Still D4 ∧ D4.secs.length = 7) := Lib.hid ⟨h44.2 HC.out.1, h41.trans HC.out.2⟩
                have HDC9 := Lib.hid (And.intro h42 h43)
                refine wpAnyH_ready (rs := [10]) (by kernel_rfl) (by simp) ?_
                refine AllReadyH.cons rfl (fun K hK => ?_) AllReadyH.nil
                go_simp
                refine hK.out _ _ (SX.out w9 ea9) (fun hH9 => ?_)
                clear hK K hw9 y0 y1 y2 y3 y4 fy nz G ea9 ea6 n6 bb6 hd6 hr6 hb4 hk4 h41 h42 h43 h44 h45
                try simp only [List.getElem_toArray, List.getElem_cons_zero, List.getElem_cons_succ, Act.put, List.setIfInBounds_toArray, List.set_cons_zero, List.set_cons_succ]
                refine wpAnyH_done (by kernel_rfl) ?_ _
                clear hH9 hH6 hH5 hHeld
                go_wp2
                have h1 := HLT.out
                have h2 := HJ4.out
                go_roundw
                case rel => exact ⟨j + 1, D4, cv4, xa4, xn4, xc4, ya4, yn4, yc4, dd4, ai4, dn4, HLT.out, HJ4.out, by go_num, HD9, HR9, NZ, HB9, HC9, by have := HDC9.out.2; have := HDC.out.1; omega, by have := HDC9.out.1; have := HDC.out.2; omega, HO9⟩
                case measure => simp [intOf]; omega
              · have hx2 : (j : Int) < (L2 : Int) := by omega
                have hx3 : ¬ (j : Int) < 12 := by omega
                go_wp2_with fail
                go_meet
                exact ⟨D, cv, xa3, xn3, xc3, ya3, yn3, yc3, dd3, ai3, dn3, HD, HRR, HN, HB, HC, by omega, by omega, HO⟩
            · have hx2 : ¬ (j : Int) < (L2 : Int) := by omega
              go_wp2_with fail
              go_meet
              exact ⟨D, cv, xa3, xn3, xc3, ya3, yn3, yc3, dd3, ai3, dn3, HD, HRR, HN, HB, HC, by omega, by omega, HO⟩
        case rest =>
          clear HD HRR HN HB HC hde hca HO
          obtain ⟨E3, cvE, xa3, xn3, xc3, ya3, yn3, yc3, dd3, ai3, dn3, HDt, HRt, HNt, HBt, HCt, hdet, hcat, HOt⟩ := hcut
          generalize wc = wn at *
          have HDd : Hid (IsDisk w1.heap.size wn g gs cv2 D2) := Lib.hid HOt.out.dk
          have HRd : Hid (RefIs w1.heap.size wn D2 (.agg #[.slice xa xn xc, .slice ya yn yc, .bool dd, .int .i64 ai, .int .i64 dn])) := Lib.hid HOt.out.rf
          have HNd : Hid (wn.heap[gb]? = some (.cells #[.slice xa xn xc, .slice ya yn yc, .bool dd, .int .i64 ai, .int .i64 dn] 28 (0, 0))) := Lib.hid HOt.out.bx
          clear HOt
          obtain ⟨sa, sc, qa, qc, ev, o1, o2⟩ := HRd.out
          obtain ⟨sa', sc', qa', qc', ev', o1', o2'⟩ := HRt.out
          simp only [refV, Value.agg.injEq, Array.mk.injEq, List.cons.injEq, Value.slice.injEq, Value.bool.injEq, Value.int.injEq, and_true, true_and] at ev ev'
          obtain ⟨⟨rfl, rfl, rfl⟩, ⟨rfl, rfl, rfl⟩, rfl, rfl, rfl⟩ := ev
          obtain ⟨⟨rfl, rfl, rfl⟩, ⟨rfl, rfl, rfl⟩, rfl, rfl, rfl⟩ := ev'
          obtain ⟨r1, -, -⟩ := owns_room o1
          obtain ⟨r2, -, -⟩ := owns_room o2
          obtain ⟨r1', -, -⟩ := owns_room o1'
          obtain ⟨r2', -, -⟩ := owns_room o2'
          have R1 := Lib.hid r1
          have R2 := Lib.hid r2
          have R1' := Lib.hid r1'
          have R2' := Lib.hid r2'
          have HAL := Lib.hid (alikeR_is HCa.out.1 HCt.out.1)
          have HOK := Lib.hid (And.intro HDd.out.2.2.2.1 HDt.out.2.2.2.1)
          have HSAME := Lib.hid (fun (W : World) (hW : Below wn.heap.size wn W) => same_is (HDd.out.more hW) (HDt.out.more hW) (HCa.out.2.trans HCt.out.2.symm))
          have HIS1 := Lib.hid (fun (W : World) (hW : Below wn.heap.size wn W) => is3_true (HDd.out.more hW) (HRd.out.below hW))
          have HIS2 := Lib.hid (fun (W : World) (hW : Below wn.heap.size wn W) => is3_true (HDt.out.more hW) (HRt.out.below hW))
          clear o1 o2 o1' o2' r1 r2 r1' r2' HRd HRt HDd HDt
          unfold alikeR at HAL
          unfold refV at HIS1 HIS2
          obtain ⟨q2, hq2⟩ : ∃ x, D2.cache.length = x := ⟨_, rfl⟩
          obtain ⟨q3, hq3⟩ : ∃ x, E3.cache.length = x := ⟨_, rfl⟩
          obtain ⟨al, hal⟩ : ∃ x, alikeB D2 E3 = x := ⟨_, rfl⟩
          have HQ := Lib.hid (And.intro hq2 hq3)
          have HS7 := Lib.hid (And.intro HCa.out.2 HCt.out.2)
          rw [hal] at HAL HSAME
          rw [hq2] at HAL HNd HIS1 hcaa
          rw [hq3] at HAL HNt HIS2 hcat
          rw [HCa.out.2] at HNd HIS1
          rw [HCt.out.2] at HNt HIS2
          generalize D2.dead = e1 at *
          generalize E3.dead = e2 at *
          generalize armI D2 = m1 at *
          generalize armI E3 = m2 at *
          clear HCa HCt hdea hdet hq2 hq3 hal
          have x0 := cell_of_row HNd.out 0
          have x1 := cell_of_row HNd.out 1
          have x2 := cell_of_row HNd.out 2
          have x3 := cell_of_row HNd.out 3
          have y0 := cell_of_row HNt.out 0
          have y1 := cell_of_row HNt.out 1
          have y2 := cell_of_row HNt.out 2
          have y3 := cell_of_row HNt.out 3
          obtain ⟨a0, ha0⟩ : ∃ x, decide (e1 = e2 ∧ m1 = m2 ∧ q2 = q3) = x := ⟨_, rfl⟩
          have HA0 := Lib.hid ha0
          rw [ha0] at HAL
          clear ha0
          go_upto_region 19 with fail
          go_cut [14] (fun v14 wc => v14 = .bool a0 ∧ Hid (Below wn.heap.size wn wc))
          case first =>
            cases e1 <;> cases e2 <;> by_cases hm : m1 = m2 <;> by_cases hq : q2 = q3
            all_goals
              have hm' : (m1 == m2) = decide (m1 = m2) := by rw [Bool.eq_iff_iff]; simp
              have hq' : ((q2 : Int) == (q3 : Int)) = decide (q2 = q3) := by rw [Bool.eq_iff_iff]; simp; omega
              first | rw [decide_eq_true hm] at hm' | rw [decide_eq_false hm] at hm'
              first | rw [decide_eq_true hq] at hq' | rw [decide_eq_false hq] at hq'
              have HA1 := HA0.out
              simp only [hm, hq, and_true, and_false, and_self, decide_true, decide_false, reduceCtorEq, false_and, true_and] at HA1
              subst HA1
              try clear hm
              try clear hq
              go_wp2_with fail
              go_meet
              first | exact ⟨rfl, Lib.hid (Below.refl _ _)⟩ | (trace_state; fail)
          case rest =>
            obtain ⟨rfl, HB4⟩ := hcut
            clear x0 x1 x2 x3 y0 y1 y2 y3
            generalize wc = wo at *
            go_upto_block 6 with fail
            go_cut [14] (fun v14 wc => ∃ b : Bool, v14 = .bool b ∧ Hid (b = (a0 && decide (D2.cache = E3.cache))) ∧ Hid (Below wn.heap.size wn wc))
            case first =>
              go_wp2_with fail
              go_loopw [14, 15] (fun v14 i wr => ∃ (j : Nat) (b : Bool), v14 = .bool b ∧ i = .int .i64 (j : Int) ∧ j ≤ q2 ∧ Hid (b = (a0 && decide (D2.cache.take j = E3.cache.take j))) ∧ Hid (Below wn.heap.size wn wr)) (fun _ i _ => 60 - (intOf i).toNat)
              case atStart => exact ⟨0, a0, rfl, rfl, Nat.zero_le _, Lib.hid (by simp), HB4⟩
              case round =>
                obtain ⟨j, b, rfl, rfl, hj, HJ, HB⟩ := hrel
                clear HB4
                have x1 := cell_of_row ((HB.out.block gb (Array.getElem?_eq_some_iff.1 HNd.out).1).trans HNd.out) 1
                have y1 := cell_of_row ((HB.out.block gb2 (Array.getElem?_eq_some_iff.1 HNt.out).1).trans HNt.out) 1
                cases b with
                | false =>
                  have HE : Hid (false = (a0 && decide (D2.cache = E3.cache))) := Lib.hid (by
                    have h1 := HJ.out
                    by_cases h2 : D2.cache = E3.cache
                    · rw [h2] at h1 ⊢; simpa using h1
                    · simp [h2])
                  go_wp2_with fail
                  go_meet
                  exact ⟨_, rfl, HE, HB⟩
                | true =>
                  obtain ⟨ha0, hT⟩ : a0 = true ∧ D2.cache.take j = E3.cache.take j := by have h1 := HJ.out; simpa using h1.symm
                  have h3 : e1 = e2 ∧ m1 = m2 ∧ q2 = q3 := by have h1 := HA0.out; rw [ha0] at h1; simpa using h1
                  have HT := Lib.hid hT
                  have HAA := Lib.hid ha0
                  have HQQ := Lib.hid h3.2.2
                  have hq3' : q2 = q3 := h3.2.2
                  clear h3 hT ha0
                  by_cases hlt : j < q2
                  · obtain ⟨s, hs⟩ : ∃ s, D2.cache[j]? = some s := ⟨_, List.getElem?_eq_getElem (by rw [HQ.out.1]; exact hlt)⟩
                    obtain ⟨t, ht⟩ : ∃ s, E3.cache[j]? = some s := ⟨_, List.getElem?_eq_getElem (by rw [HQ.out.2, ← hq3']; exact hlt)⟩
                    have hs8 := (HOK.out.1.2.1 s (List.mem_of_getElem? hs)).2.1
                    have ht8 := (HOK.out.2.2.1 t (List.mem_of_getElem? ht)).2.1
                    obtain ⟨b, o, rfl, hrs⟩ := wrs_there (R2.out.below HB.out) hs
                    obtain ⟨b', o', rfl, hrt⟩ := wrs_there (R2'.out.below HB.out) ht
                    have HRS := Lib.hid hrs
                    have HRT := Lib.hid hrt
                    have heq := run_eql_wrR s.1 t.1 s.2 t.2 hs8 ht8
                    have hst : (s.1 = t.1 ∧ s.2 = t.2) ↔ s = t := ⟨fun h => Prod.ext h.1 h.2, fun h => by rw [h]; exact ⟨rfl, rfl⟩⟩
                    rw [show decide (s.1 = t.1 ∧ s.2 = t.2) = decide (s = t) from by simp only [hst]] at heq
                    have HNX : Hid (decide (s = t) = (a0 && decide (D2.cache.take (j + 1) = E3.cache.take (j + 1)))) := Lib.hid (by rw [HAA.out, Bool.true_and]; exact decide_eq_decide.2 (take_step hs ht HT.out).symm)
                    have HS8 := Lib.hid hs8
                    have HT8 := Lib.hid ht8
                    obtain ⟨r, hr⟩ : ∃ x, decide (s = t) = x := ⟨_, rfl⟩
                    rw [hr] at heq HNX
                    have hx0 : (0 : Int) ≤ (j : Int) := by omega
                    have hx1 : (j : Int) < (q2 : Int) := by omega
                    have hx2 : (j : Int) < (q3 : Int) := by omega
                    have HLT := Lib.hid hlt
                    have hj60 : j < 60 := by omega
                    clear hs ht hs8 ht8 hlt hrs hrt hst hr hq3'
                    go_wp2_with fail
                    have p1 := cell_regrown x1
                    have p2 := cell_regrown y1
                    refine wp_region_quiet_below (by kernel_rfl) (by kernel_rfl) ?_
                    repeat (first
                      | (go_big_quiet_want; (refine quiet_load_wrR _ rfl b (o + j * 129) s rfl HS8.out HRS.out ?_); go_simp; go_big_quiet_on)
                      | (go_big_quiet_want; (refine quiet_load_wrR _ rfl b' (o' + j * 129) t rfl HT8.out HRT.out ?_); go_simp; go_big_quiet_on)
                      | go_big_quiet_step (fail))
                    refine wpQuiet_nil (regrown_name fun w3 b3 => ?_)
                    have B3 := Lib.hid (below_next HB.out b3)
                    clear b3
                    go_wp2
                    have h1 := HLT.out
                    go_roundw
                    case rel => exact ⟨j + 1, r, rfl, by go_num, HLT.out, HNX, B3⟩
                    case measure => simp [intOf]; omega
                  · have hx1 : ¬ (j : Int) < (q2 : Int) := by omega
                    have HE : Hid (true = (a0 && decide (D2.cache = E3.cache))) := Lib.hid (by
                      have h1 := (take_all (k := j) (by rw [HQ.out.1]; omega) (by rw [HQ.out.2]; omega)).1 HT.out
                      rw [HAA.out, h1]; simp)
                    clear hq3'
                    go_wp2_with fail
                    go_meet
                    exact ⟨_, rfl, HE, HB⟩
            case rest =>
              clear HB4
              obtain ⟨b4, rfl, HB5, HB4⟩ := hcut
              generalize wc = wp at *
              have HAL2 := Lib.hid (HAL.out.trans (congrArg (· && decide (D2.secs = E3.secs)) HB5.out.symm))
              have x0 := cell_of_row ((HB4.out.block gb (Array.getElem?_eq_some_iff.1 HNd.out).1).trans HNd.out) 0
              go_upto_block 8 with fail
              clear x0
              go_cut [14] (fun v14 wc => v14 = .bool al ∧ Hid (Below wn.heap.size wn wc))
              case first =>
                go_wp2_with fail
                go_loopw [14, 16, 141] (fun v14 _ i wr => ∃ (j : Nat) (c : Bool), v14 = .bool c ∧ i = .int .i64 (j : Int) ∧ j ≤ 7 ∧ Hid (c = (b4 && decide (D2.secs.take j = E3.secs.take j))) ∧ Hid (Below wn.heap.size wn wr)) (fun _ _ i _ => 60 - (intOf i).toNat)
                case atStart => exact ⟨0, b4, rfl, rfl, Nat.zero_le _, Lib.hid (by simp), HB4⟩
                case round =>
                  obtain ⟨j, c, rfl, rfl, hj, HJ, HB⟩ := hrel
                  clear HB4
                  have x1 := cell_of_row ((HB.out.block gb (Array.getElem?_eq_some_iff.1 HNd.out).1).trans HNd.out) 0
                  have y1 := cell_of_row ((HB.out.block gb2 (Array.getElem?_eq_some_iff.1 HNt.out).1).trans HNt.out) 0
                  by_cases hlt : j < 7
                  · obtain ⟨s, hs⟩ : ∃ s, D2.secs[j]? = some s := ⟨_, List.getElem?_eq_getElem (by rw [HS7.out.1]; exact hlt)⟩
                    obtain ⟨t, ht⟩ : ∃ s, E3.secs[j]? = some s := ⟨_, List.getElem?_eq_getElem (by rw [HS7.out.2]; exact hlt)⟩
                    have hs8 := (HOK.out.1.1 s (List.mem_of_getElem? hs)).1
                    have ht8 := (HOK.out.2.1 t (List.mem_of_getElem? ht)).1
                    obtain ⟨b, o, rfl, hrs⟩ := secs_thereR (R1.out.below HB.out) hs
                    obtain ⟨b', o', rfl, hrt⟩ := secs_thereR (R1'.out.below HB.out) ht
                    have HRS := Lib.hid hrs
                    have HRT := Lib.hid hrt
                    have heq := run_eql_full s t hs8 ht8
                    have HNX : Hid ((c && decide (s = t)) = (b4 && decide (D2.secs.take (j + 1) = E3.secs.take (j + 1)))) := Lib.hid (by
                      rw [HJ.out]
                      by_cases h9 : D2.secs.take j = E3.secs.take j
                      · rw [decide_eq_true h9, Bool.and_true]; exact congrArg (b4 && ·) (decide_eq_decide.2 (take_step hs ht h9).symm)
                      · have h10 : ¬ D2.secs.take (j + 1) = E3.secs.take (j + 1) := fun e => h9 (by have := congrArg (List.take j) e; rwa [List.take_take, List.take_take, Nat.min_eq_left (by omega)] at this)
                        rw [decide_eq_false h9, decide_eq_false h10, Bool.and_false]; rfl)
                    have HS8 := Lib.hid hs8
                    have HT8 := Lib.hid ht8
                    obtain ⟨r, hr⟩ : ∃ x, decide (s = t) = x := ⟨_, rfl⟩
                    rw [hr] at heq HNX
                    have hx0 : (0 : Int) ≤ (j : Int) := by omega
                    have hx1 : (j : Int) < 7 := by omega
                    have HLT := Lib.hid hlt
                    clear hs ht hs8 ht8 hlt hrs hrt hr
                    cases c with
                    | true =>
                      simp only [Bool.true_and] at HNX
                      go_wp2_with fail
                      have p1 := cell_regrown x1
                      have p2 := cell_regrown y1
                      refine wp_region_quiet_below (by kernel_rfl) (by kernel_rfl) ?_
                      repeat (first
                        | (go_big_quiet_want; (refine quiet_load_full _ rfl b (o + j * 128) s rfl HS8.out HRS.out ?_); go_simp; go_big_quiet_on)
                        | (go_big_quiet_want; (refine quiet_load_full _ rfl b' (o' + j * 128) t rfl HT8.out HRT.out ?_); go_simp; go_big_quiet_on)
                        | go_big_quiet_step (fail))
                      refine wpQuiet_nil (regrown_name fun w3 b3 => ?_)
                      have B3 := Lib.hid (below_next HB.out b3)
                      clear b3
                      go_wp2
                      have h1 := HLT.out
                      go_roundw
                      case rel => exact ⟨j + 1, r, rfl, by go_num, HLT.out, HNX, B3⟩
                      case measure => simp [intOf]; omega
                    | false =>
                      simp only [Bool.false_and] at HNX
                      go_wp2_with fail
                      have p1 := cell_regrown x1
                      have p2 := cell_regrown y1
                      refine wp_region_quiet_below (by kernel_rfl) (by kernel_rfl) ?_
                      repeat (first
                        | (go_big_quiet_want; (refine quiet_load_full _ rfl b (o + j * 128) s rfl HS8.out HRS.out ?_); go_simp; go_big_quiet_on)
                        | (go_big_quiet_want; (refine quiet_load_full _ rfl b' (o' + j * 128) t rfl HT8.out HRT.out ?_); go_simp; go_big_quiet_on)
                        | go_big_quiet_step (fail))
                      refine wpQuiet_nil (regrown_name fun w3 b3 => ?_)
                      have B3 := Lib.hid (below_next HB.out b3)
                      clear b3
                      go_wp2
                      have h1 := HLT.out
                      go_roundw
                      case rel => exact ⟨j + 1, false, rfl, by go_num, HLT.out, HNX, B3⟩
                      case measure => simp [intOf]; omega
                  · have hx1 : ¬ (j : Int) < 7 := by omega
                    have HE : Hid (c = al) := Lib.hid (by
                      rw [HJ.out, HAL2.out]
                      exact congrArg (b4 && ·) (decide_eq_decide.2 (take_all (by rw [HS7.out.1]; omega) (by rw [HS7.out.2]; omega))))
                    go_wp2_with fail
                    go_meet
                    exact ⟨by rw [HE.out], HB⟩
              case rest =>
                clear HB4
                obtain ⟨rfl, HB4⟩ := hcut
                generalize wc = wq at *
                have n1 := (HB4.out.block gb (Array.getElem?_eq_some_iff.1 HNd.out).1).trans HNd.out
                have x0 := cell_of_row n1 0
                have x1 := cell_of_row n1 1
                have x2 := cell_of_row n1 2
                have x3 := cell_of_row n1 3
                have x4 := cell_of_row n1 4
                clear n1
                go_wp2_with fail
                refine (HIS1.out wq HB4.out).mono ?_
                rintro e w91 ⟨rfl, b91⟩
                have B91 := Lib.hid (below_next HB4.out b91)
                have n1 := (B91.out.block gb2 (Array.getElem?_eq_some_iff.1 HNt.out).1).trans HNt.out
                clear x0 x1 x2 x3 x4 b91
                have x0 := cell_of_row n1 0
                have x1 := cell_of_row n1 1
                have x2 := cell_of_row n1 2
                have x3 := cell_of_row n1 3
                have x4 := cell_of_row n1 4
                clear n1
                go_wp2_with fail
                refine (HIS2.out w91 B91.out).mono ?_
                rintro e w92 ⟨rfl, b92⟩
                have B92 := Lib.hid (below_next B91.out b92)
                clear x0 x1 x2 x3 x4 b92
                go_wp2_with fail
                refine (HSAME.out w92 B92.out).mono ?_
                rintro e w93 ⟨rfl, b93⟩
                have B93 := Lib.hid (below_next HBt.out (below_next B92.out b93))
                have hself : (al == al) = true := by simp
                clear b93
                go_wp2_with fail
                go_ret
                first | exact ⟨rfl, B93.out⟩ | exact ⟨by simp, B93.out⟩
end Go.Proofs.Ythainmbapikjiaa
