/- DiskSafe's walk. -/
import Derived.Test.YtbpklbicbeckdaaSafe1
import Derived.Test.YtbpklbicbeckdaaOpenB
import Derived.Deep.DeepCutAuto
import Derived.Deep.CutBlock
import Derived.Lib.MinMax
namespace Go.Proofs.Ytbpklbicbeckdaa
open Go.RowKit Go.Sort
set_option linter.unusedVariables false
set_option linter.unusedSimpArgs false
set_option maxRecDepth 100000

/-- A disk that isn't armed, of nine sectors. -/
def Calm9 (B : Nat) (w : World) (g gs : Nat) (w0 : World) (n : Nat) : Prop := ∃ (D : DiskD) (cv : Value), IsDisk B w g gs cv D ∧ D.armed = false ∧ D.dead = false ∧ D.secs.length = 9 ∧ D.deeds ≤ n ∧ D.cache.length ≤ n ∧ Below w0.heap.size w0 w
theorem calm_struck {D : DiskD} (h1 : D.armed = false) (h2 : D.dead = false) : deedE D = 0 ∧ (flushD D).secs.length = D.secs.length ∧ (flushD D).cache = [] ∧ (flushD D).dead = false ∧ (flushD D).deeds = D.deeds + 1 := by
  have hs := strike_calm.1 h1 h2
  have e : flushD D = { deedD D with secs := settles D.cache D.secs, cache := [] } := if_neg (by rw [hs]; decide)
  have e2 : deedD D = { strikeD D with deeds := D.deeds + 1 } := if_neg (by rw [hs]; decide)
  refine ⟨if_neg (by rw [hs]; decide), (flushD_bounds D).1, by rw [e], ?_, ?_⟩
  · rw [e, e2]; exact hs
  · rw [e, e2]
set_option maxHeartbeats 1600000 in
theorem diskSafe_walk (a : Option Addr) (cap : Nat) (l : List Act3D) (arm : Int) (ka : Option Addr) (kn kc : Nat) (ks : List Bool) (w : World) (hr : ReadsR w a 4 (rowsOf act3V l)) (hfit : ∀ u ∈ l, Act3Fits w u) (hcap : l.length ≤ cap) (hk : ReadsB w ka kn ks) (hkn : kn ≤ 9223372036854775807) (harm : I64 arm) :
    Calls Try.prog 3 #[.slice a l.length cap, .int .i64 arm, .slice ka kn kc] w fun e w' => e = .returned (.bool true) ∧ Below w.heap.size w w' := by
  obtain ⟨L, hL⟩ : ∃ L, l.length = L := ⟨_, rfl⟩
  have HLN := Lib.hid hL
  rw [hL] at hcap ⊢
  have HR := Lib.hid hr
  have HF := Lib.hid hfit
  have HK := Lib.hid (And.intro hk hkn)
  have HARM := Lib.hid harm
  have HRB : Hid (∀ b off, a = some (⟨b, off, none⟩ : Addr) → l ≠ [] → b < w.heap.size) := Lib.hid (fun b off e hne => by
    rcases HR.out.2 with h0 | ⟨b9, o9, he, hb9, _⟩
    · have h1 := congrArg List.length h0
      rw [rowsOf_length] at h1
      exact absurd (List.length_eq_zero_iff.1 h1) hne
    · rw [e] at he
      cases he
      exact hb9)
  clear hr hfit hL hk hkn harm
  go_enter Try.func3, Try.ntmps3
  go_wp2_with fail
  refine (awake3_true w).mono ?_
  rintro e w1 ⟨rfl, b1⟩
  have B1 := Lib.hid b1
  clear b1
  go_wp2_with fail
  refine (sized_at 9 9 (by decide) w1).mono ?_
  rintro e w2 ⟨g, gs, v, rfl, hd2, hr2, b2⟩
  obtain ⟨xa, xn, xc, ya, yn, yc, dd, ai, dn, rfl⟩ := ref_agg hr2
  obtain ⟨gb, hgb⟩ : ∃ x, w2.heap.size = x := ⟨_, rfl⟩
  have n3 := heap_alloc_new w2 (.cells #[.slice xa xn xc, .slice ya yn yc, .bool dd, .int .i64 ai, .int .i64 dn] 29)
  have b3 := below_box w2 (.cells #[.slice xa xn xc, .slice ya yn yc, .bool dd, .int .i64 ai, .int .i64 dn] 29)
  obtain ⟨w3, hw3⟩ : ∃ x, w2.alloc (.cells #[.slice xa xn xc, .slice ya yn yc, .bool dd, .int .i64 ai, .int .i64 dn] 29) = x := ⟨_, rfl⟩
  rw [hw3] at n3 b3
  rw [hgb] at n3
  have HD3 := Lib.hid (hd2.more b3)
  have HR3 := Lib.hid (hr2.below b3)
  have HN3 := Lib.hid n3
  have HB3 : Hid (Below w.heap.size w w3) := Lib.hid (below_next B1.out (below_next b2 b3))
  have hgb1 : w1.heap.size ≤ gb := by rw [← hgb]; exact b2.size
  have HW1 : Hid (w.heap.size ≤ w1.heap.size) := Lib.hid B1.out.size
  clear n3 b3 b2 hd2 hr2
  go_upto_block 0 with fail
  clear hw3 hgb
  go_cut [9] (fun _ wc => Hid (Calm9 w1.heap.size wc g gs w 40))
  case first =>
    go_wp2_with fail
    go_loopw [9] (fun i wr => ∃ (j : Nat) (D : DiskD) (cv : Value) (xa : Option Addr) (xn xc : Nat) (ya : Option Addr) (yn yc : Nat) (dd : Bool) (ai dn : Int), j ≤ L ∧ j ≤ 20 ∧ i = .int .i64 (j : Int) ∧ Hid (IsDisk w1.heap.size wr g gs cv D) ∧ Hid (RefIs w1.heap.size wr D (.agg #[.slice xa xn xc, .slice ya yn yc, .bool dd, .int .i64 ai, .int .i64 dn])) ∧ Hid (wr.heap[gb]? = some (.cells #[.slice xa xn xc, .slice ya yn yc, .bool dd, .int .i64 ai, .int .i64 dn] 29 (0, 0))) ∧ Hid (Below w.heap.size w wr) ∧ Hid (D.armed = false ∧ D.dead = false ∧ D.secs.length = 9) ∧ D.deeds ≤ j ∧ D.cache.length ≤ j) (fun i _ => 20 - (intOf i).toNat)
    case atStart => exact ⟨0, _, _, _, _, _, _, _, _, _, _, _, Nat.zero_le _, by decide, rfl, HD3, HR3, HN3, HB3, Lib.hid ⟨rfl, rfl, rfl⟩, Nat.le_refl _, Nat.le_refl _⟩
    case round =>
      obtain ⟨j, D, cv, xa, xn, xc, ya, yn, yc, dd, ai, dn, hj1, hj2, rfl, HD, HRR, HN, HB, HC, hde, hca⟩ := hrel
      clear HD3 HR3 HN3 HB3
      by_cases hlt : j < L
      · by_cases h20 : j < 20
        · obtain ⟨⟨kd, at_, sa, sn, sc, ka1, kn1, kc1, S, ks1⟩, hx⟩ : ∃ x, l[j]? = some x := ⟨_, List.getElem?_eq_getElem (by rw [HLN.out]; exact hlt)⟩
          obtain ⟨p1, p2, ⟨p3, p4⟩, p5, p6⟩ := HF.out _ (List.mem_of_getElem? hx)
          dsimp only at p1 p2 p3 p4 p5 p6
          obtain ⟨b, off, rfl, hb, hc⟩ := (HR.out.below HB.out).row (rowsOf_get hx)
          have c0 : wr.cell? ⟨b, off + j * 4, none⟩ = some (.int .i64 kd) := hc 0 _ rfl
          have c1 : wr.cell? ⟨b, off + j * 4 + 1, none⟩ = some (.int .i64 at_) := by have := hc 1 _ rfl; rwa [← Nat.add_assoc] at this
          have c2 : wr.cell? ⟨b, off + j * 4 + 2, none⟩ = some (.slice sa sn sc) := by have := hc 2 _ rfl; rwa [← Nat.add_assoc] at this
          have c3 : wr.cell? ⟨b, off + j * 4 + 3, none⟩ = some (.slice ka1 kn1 kc1) := by have := hc 3 _ rfl; rwa [← Nat.add_assoc] at this
          have hx1 : (0 : Int) ≤ (j : Int) := by omega
          have hx2 : (j : Int) < (L : Int) := by omega
          have hx3 : (j : Int) < 20 := by omega
          by_cases hk3 : kd = 3
          · subst hk3
            have HLT := Lib.hid hlt
            have HJ4 := Lib.hid h20
            clear p1 p2 p3 p4 p5 p6 hc hx hb hlt h20 c1 c2 c3
            go_wp2
            have h1 := HLT.out
            have h2 := HJ4.out
            go_roundw
            case rel => exact ⟨j + 1, D, cv, xa, xn, xc, ya, yn, yc, dd, ai, dn, HLT.out, HJ4.out, by go_num, HD, HRR, HN, HB, HC, by omega, by omega⟩
            case measure => simp [intOf]; omega
          · have hsB : S ≠ [] → ∀ y, sa = some y → y.block < w1.heap.size := fun hne y hy => by
              rcases p3.2.2 with h0 | ⟨b9, o9, he, hb9, _⟩
              · exact absurd h0 hne
              · rw [hy] at he
                have := Option.some.inj he
                have h9 := HW1.out
                rw [this]
                show b9 < _
                omega
            have hkB : ks1 ≠ [] → ∀ y, ka1 = some y → y.block < w1.heap.size := fun hne y hy => by
              rcases p5.2 with h0 | ⟨b9, o9, he, hb9, _⟩
              · exact absurd h0 hne
              · rw [hy] at he
                have := Option.some.inj he
                have h9 := HW1.out
                rw [this]
                show b9 < _
                omega
            have HDOF := Lib.hid (fun (W : World) (hW : Below wr.heap.size wr W) => do3_is (HD.out.more hW) (HRR.out.below hW) (by omega) (by omega) kd at_ sa sn sc S (p3.below (below_next HB.out hW)) p3.2.1 p4 hsB ka1 kn1 kc1 ks1 (readsB_below p5 (below_next HB.out hW)) p6 hkB p2.2)
            have NGB := Lib.hid (rbox_ne HD.out HN.out)
            have HBB : Hid (b < w1.heap.size) := Lib.hid (by have := HRB.out b off rfl (by intro h0; rw [h0] at hx; cases hx); have := HW1.out; omega)
            have HWR : Hid (w1.heap.size ≤ wr.heap.size) := Lib.hid HD.out.size
            have SX : Hid (∀ W : World, W.heap[b]? = wr.heap[b]? → (W.cell? ⟨b, off + j * 4, none⟩ = some (.int .i64 kd) ∧ W.cell? ⟨b, off + j * 4 + 1, none⟩ = some (.int .i64 at_) ∧ W.cell? ⟨b, off + j * 4 + 2, none⟩ = some (.slice sa sn sc) ∧ W.cell? ⟨b, off + j * 4 + 3, none⟩ = some (.slice ka1 kn1 kc1))) := Lib.hid (fun W e1 => ⟨(World.cell?_of_block (w := wr) (a := ⟨b, off + j * 4, none⟩) e1).trans c0, (World.cell?_of_block (w := wr) (a := ⟨b, off + j * 4 + 1, none⟩) e1).trans c1, (World.cell?_of_block (w := wr) (a := ⟨b, off + j * 4 + 2, none⟩) e1).trans c2, (World.cell?_of_block (w := wr) (a := ⟨b, off + j * 4 + 3, none⟩) e1).trans c3⟩)
            have HLT := Lib.hid hlt
            have HJ4 := Lib.hid h20
            have HK3 := Lib.hid hk3
            have HDC := Lib.hid (And.intro hde hca)
            clear p1 p2 p3 p4 p5 p6 hsB hkB hc hx hb hlt h20
            go_wp2_with fail
            clear c0 c1 c2 c3
            refine wp_region_held_drew (S := fun W => (W.cell? ⟨b, off + j * 4, none⟩ = some (.int .i64 kd) ∧ W.cell? ⟨b, off + j * 4 + 1, none⟩ = some (.int .i64 at_) ∧ W.cell? ⟨b, off + j * 4 + 2, none⟩ = some (.slice sa sn sc) ∧ W.cell? ⟨b, off + j * 4 + 3, none⟩ = some (.slice ka1 kn1 kc1))) (by kernel_rfl) (SX.out wr.drew rfl) (fun hHeld => ?_)
            obtain ⟨w5, hw5⟩ : ∃ x, wr.drew = x := ⟨_, rfl⟩
            have c5 : Below wr.heap.size wr w5 := by rw [← hw5]; exact (Below.refl _ _).drew
            have ea5 : w5.heap[b]? = wr.heap[b]? := by rw [← hw5]; rfl
            have n5 : w5.heap[gb]? = some (.cells #[.slice xa xn xc, .slice ya yn yc, .bool dd, .int .i64 ai, .int .i64 dn] 29 (0, 0)) := by rw [← hw5]; exact HN.out
            have HN5 := Lib.hid n5
            have x0 : w5.cell? ⟨gb, 0, none⟩ = some (.slice xa xn xc) := cell_of_row n5 0
            have x1 : w5.cell? ⟨gb, 1, none⟩ = some (.slice ya yn yc) := cell_of_row n5 1
            have x2 : w5.cell? ⟨gb, 2, none⟩ = some (.bool dd) := cell_of_row n5 2
            have x3 : w5.cell? ⟨gb, 3, none⟩ = some (.int .i64 ai) := cell_of_row n5 3
            have x4 : w5.cell? ⟨gb, 4, none⟩ = some (.int .i64 dn) := cell_of_row n5 4
            have s5 := c5.size
            rw [hw5] at hHeld ⊢
            clear hw5 n5
            refine wpAnyH_take (i := 0) (v := .pointer (some ⟨g, 0, none⟩)) rfl (by kernel_rfl) (by kernel_rfl) (by kernel_rfl) (fun _ _ _ h => h) (Or.inl ⟨by rfl, by intro W hSw; clear hSw; go_simp⟩) (by assumption) ?_
            try simp only [List.getElem_toArray, List.getElem_cons_zero, List.getElem_cons_succ, Act.put, List.setIfInBounds_toArray, List.set_cons_zero, List.set_cons_succ]
            refine wpAnyH_take (i := 2) (v := .slice (some ⟨b, off, none⟩) L cap) rfl (by kernel_rfl) (by kernel_rfl) (by kernel_rfl) (fun _ _ _ h => h) (Or.inl ⟨by rfl, by intro W hSw; clear hSw; go_simp⟩) (by assumption) ?_
            try simp only [List.getElem_toArray, List.getElem_cons_zero, List.getElem_cons_succ, Act.put, List.setIfInBounds_toArray, List.set_cons_zero, List.set_cons_succ]
            refine wpAnyH_take (i := 3) (v := .int .i64 (j : Int)) rfl (by kernel_rfl) (by kernel_rfl) (by kernel_rfl) (fun _ _ _ h => h) (Or.inl ⟨by rfl, by intro W hSw; clear hSw; go_simp⟩) (by assumption) ?_
            try simp only [List.getElem_toArray, List.getElem_cons_zero, List.getElem_cons_succ, Act.put, List.setIfInBounds_toArray, List.set_cons_zero, List.set_cons_succ]
            refine wpAnyH_take (i := 4) (v := .pointer (some ⟨b, off + j * 4, none⟩)) rfl (by kernel_rfl) (by kernel_rfl) (by kernel_rfl) (fun _ _ _ h => h) (Or.inl ⟨by rfl, by intro W hSw; clear hSw; go_simp⟩) (by assumption) ?_
            try simp only [List.getElem_toArray, List.getElem_cons_zero, List.getElem_cons_succ, Act.put, List.setIfInBounds_toArray, List.set_cons_zero, List.set_cons_succ]
            refine wpAnyH_take (i := 5) (v := .agg #[.int .i64 kd, .int .i64 at_, .slice sa sn sc, .slice ka1 kn1 kc1]) rfl (by kernel_rfl) (by kernel_rfl) (by kernel_rfl) (fun _ _ _ h => h) (Or.inl ⟨by rfl, by intro W hSw; obtain ⟨q5, q6, q7, q8⟩ := hSw; go_simp⟩) (by assumption) ?_
            try simp only [List.getElem_toArray, List.getElem_cons_zero, List.getElem_cons_succ, Act.put, List.setIfInBounds_toArray, List.set_cons_zero, List.set_cons_succ]
            refine wpAnyH_ready (rs := [1]) (by kernel_rfl) (by simp) ?_
            refine AllReadyH.cons rfl (fun K hK => ?_) AllReadyH.nil
            go_simp
            refine hK.out _ _ hHeld (fun hH5 => ?_)
            clear hK K x0 x1 x2 x3 x4
            try simp only [List.getElem_toArray, List.getElem_cons_zero, List.getElem_cons_succ, Act.put, List.setIfInBounds_toArray, List.set_cons_zero, List.set_cons_succ]
            refine wpAnyH_ready (rs := [6]) (by kernel_rfl) (by simp) ?_
            refine AllReadyH.cons rfl (fun K hK => ?_) AllReadyH.nil
            go_simp
            refine (HDOF.out w5 c5).mono ?_
            rintro e w6 ⟨D4, cv4, v4, rfl, hd6, hr6, hb4, hk4, h41, h42, h43, h44⟩
            obtain ⟨xa4, xn4, xc4, ya4, yn4, yc4, dd4, ai4, dn4, rfl⟩ := ref_agg hr6
            have n6 := (hk4.block gb (Array.getElem?_eq_some_iff.1 HN5.out).1 NGB.out.1 NGB.out.2.1 NGB.out.2.2).trans HN5.out
            have ea6 : w6.heap[b]? = wr.heap[b]? := (hb4.block b (by have := HBB.out; omega)).trans ea5
            have bb6 : Below w1.heap.size wr w6 := (c5.mono HWR.out).trans hb4
            dsimp only
            refine hK.out _ _ (SX.out w6 ea6) (fun hH6 => ?_)
            clear hK K
            try simp only [List.getElem_toArray, List.getElem_cons_zero, List.getElem_cons_succ, Act.put, List.setIfInBounds_toArray, List.set_cons_zero, List.set_cons_succ]
            refine wpAnyH_take (i := 7) (v := .tuple #[.agg #[.slice xa4 xn4 xc4, .slice ya4 yn4 yc4, .bool dd4, .int .i64 ai4, .int .i64 dn4], .bool true]) rfl (by kernel_rfl) (by kernel_rfl) (by kernel_rfl) (fun _ _ _ h => h) (Or.inl ⟨by rfl, by intro W hSw; clear hSw; go_simp⟩) (by assumption) ?_
            try simp only [List.getElem_toArray, List.getElem_cons_zero, List.getElem_cons_succ, Act.put, List.setIfInBounds_toArray, List.set_cons_zero, List.set_cons_succ]
            refine wpAnyH_take (i := 8) (v := .agg #[.slice xa4 xn4 xc4, .slice ya4 yn4 yc4, .bool dd4, .int .i64 ai4, .int .i64 dn4]) rfl (by kernel_rfl) (by kernel_rfl) (by kernel_rfl) (fun _ _ _ h => h) (Or.inl ⟨by rfl, by intro W hSw; clear hSw; go_simp⟩) (by assumption) ?_
            try simp only [List.getElem_toArray, List.getElem_cons_zero, List.getElem_cons_succ, Act.put, List.setIfInBounds_toArray, List.set_cons_zero, List.set_cons_succ]
            refine wpAnyH_take (i := 9) (v := .bool true) rfl (by kernel_rfl) (by kernel_rfl) (by kernel_rfl) (fun _ _ _ h => h) (Or.inl ⟨by rfl, by intro W hSw; clear hSw; go_simp⟩) (by assumption) ?_
            try simp only [List.getElem_toArray, List.getElem_cons_zero, List.getElem_cons_succ, Act.put, List.setIfInBounds_toArray, List.set_cons_zero, List.set_cons_succ]
            have y0 := cell_of_row n6 0
            have y1 := cell_of_row n6 1
            have y2 := cell_of_row n6 2
            have y3 := cell_of_row n6 3
            have y4 := cell_of_row n6 4
            have fy := fun i => frozen_of_row w6 gb i _ _ n6
            have G := (five_set (.slice xa4 xn4 xc4) (.slice ya4 yn4 yc4) (.bool dd4) (.int .i64 ai4) (.int .i64 dn4) n6).2
            have nz := five_heap (.slice xa4 xn4 xc4) (.slice ya4 yn4 yc4) (.bool dd4) (.int .i64 ai4) (.int .i64 dn4) n6
            obtain ⟨w9, hw9⟩ : ∃ x, (((((w6.setCell ⟨gb, 0, none⟩ (.slice xa4 xn4 xc4)).setCell ⟨gb, 1, none⟩ (.slice ya4 yn4 yc4)).setCell ⟨gb, 2, none⟩ (.bool dd4)).setCell ⟨gb, 3, none⟩ (.int .i64 ai4)).setCell ⟨gb, 4, none⟩ (.int .i64 dn4)) = x := ⟨_, rfl⟩
            rw [hw9] at G nz
            have hbg : b ≠ gb := by have := HBB.out; omega
            have ea9 : w9.heap[b]? = wr.heap[b]? := (G.block b (by have h1 := HBB.out; have h2 := bb6.size; have h3 := HWR.out; omega) (by intro e; exact hbg (Option.some.inj e))).trans ea6
            have HD9 := Lib.hid (hd6.keptR G n6)
            have HR9 := Lib.hid (hr6.keptR G n6)
            have HB9 : Hid (Below w.heap.size w w9) := Lib.hid (by
              have h1 := HB.out.trans (bb6.mono HW1.out)
              exact h1.grown G h1.size (fun i hi => by obtain rfl := Option.some.inj hi; have := HW1.out; omega))
            have NZ := Lib.hid nz
            have HCM := Lib.hid (h44.1 HK3.out HC.out.1 HC.out.2.1)
            have HC9 : Hid (D4.armed = false ∧ D4.dead = false ∧ D4.secs.length = 9) := Lib.hid ⟨HCM.out.1, HCM.out.2, h41.trans HC.out.2.2⟩
            have HDC9 := Lib.hid (And.intro h42 h43)
            refine wpAnyH_ready (rs := [10]) (by kernel_rfl) (by simp) ?_
            refine AllReadyH.cons rfl (fun K hK => ?_) AllReadyH.nil
            go_simp
            refine hK.out _ _ (SX.out w9 ea9) (fun hH9 => ?_)
            clear hK K hw9 y0 y1 y2 y3 y4 fy nz G ea9 ea6 n6 bb6 hd6 hr6 hb4 hk4 h41 h42 h43 h44
            try simp only [List.getElem_toArray, List.getElem_cons_zero, List.getElem_cons_succ, Act.put, List.setIfInBounds_toArray, List.set_cons_zero, List.set_cons_succ]
            refine wpAnyH_done (by kernel_rfl) ?_ _
            clear hH9 hH6 hH5 hHeld
            go_wp2
            have h1 := HLT.out
            have h2 := HJ4.out
            go_roundw
            case rel => exact ⟨j + 1, D4, cv4, xa4, xn4, xc4, ya4, yn4, yc4, dd4, ai4, dn4, HLT.out, HJ4.out, by go_num, HD9, HR9, NZ, HB9, HC9, by have := HDC9.out.2; have := HDC.out.1; omega, by have := HDC9.out.1; have := HDC.out.2; omega⟩
            case measure => simp [intOf]; omega
        · have hx2 : (j : Int) < (L : Int) := by omega
          have hx3 : ¬ (j : Int) < 20 := by omega
          have HE : Hid (Calm9 w1.heap.size wr g gs w 40) := Lib.hid ⟨D, cv, HD.out, HC.out.1, HC.out.2.1, HC.out.2.2, by omega, by omega, HB.out⟩
          go_wp2_with fail
          go_meet
          exact HE
      · have hx2 : ¬ (j : Int) < (L : Int) := by omega
        have HE : Hid (Calm9 w1.heap.size wr g gs w 40) := Lib.hid ⟨D, cv, HD.out, HC.out.1, HC.out.2.1, HC.out.2.2, by omega, by omega, HB.out⟩
        go_wp2_with fail
        go_meet
        exact HE
  case rest =>
    obtain ⟨D, cv, hd, ha, hdd, hs9, hde, hca, hB⟩ := hcut.out
    obtain ⟨e0, e1, e2, e3, e4⟩ := calm_struck ha hdd
    clear HD3 HR3 HN3 HB3
    have HB := Lib.hid hB
    go_wp2_with fail
    refine (dflush_is hd (by omega)).mono ?_
    rintro e w5 ⟨rfl, ⟨cv5, hd5, _⟩, k5⟩
    rw [e0]
    obtain ⟨D5, hD5⟩ : ∃ x, flushD D = x := ⟨_, rfl⟩
    rw [hD5] at e1 e2 e3 e4 hd5
    have HB5 : Hid (Below w.heap.size w w5) := Lib.hid (HB.out.trans ((k5.below hd hd.size).mono HW1.out))
    have HD5 := Lib.hid hd5
    have HE5 : Hid (D5.secs.length = 9 ∧ D5.cache = [] ∧ D5.dead = false ∧ D5.deeds ≤ 41) := Lib.hid ⟨e1.trans hs9, e2, e3, by omega⟩
    have HLT5 : Hid (g < w5.heap.size ∧ gs < w5.heap.size ∧ w1.heap.size ≤ w5.heap.size) := Lib.hid ⟨hd5.lts.1, hd5.lts.2, hd5.size⟩
    clear e0 e1 e2 e3 e4 hd5 k5 hd ha hdd hs9 hde hca hB HB hD5 hcut hgb1
    have HSEC : Hid (∀ k : Nat, k < 9 → refI D5 (k : Int) = 0 ∧ D5.secs[k]? = some (readS D5 (k : Int)) ∧ (readS D5 (k : Int)).length = 128) := Lib.hid (fun k hk => by
      obtain ⟨h1, h2⟩ := readS_still HE5.out.2.1 HE5.out.2.2.1 (k := k) (by rw [HE5.out.1]; exact hk)
      exact ⟨h1, h2, (HD5.out.2.2.2.1.1 _ (List.mem_of_getElem? h2)).1⟩)
    go_upto_block 2 with fail
    go_cut [10] (fun v wc => Hid (OwnsR' w5.heap.size wc 41 128 v (secR D5.secs)) ∧ Hid (Below w5.heap.size w5 wc))
    case first =>
      go_wp2_with fail
      go_loopw [10, 11] (fun v i wr => ∃ k : Nat, k ≤ 9 ∧ i = .int .i64 (k : Int) ∧ Hid (OwnsR' w5.heap.size wr 41 128 v (secR (D5.secs.take k))) ∧ Hid (Below w5.heap.size w5 wr)) (fun _ i _ => 9 - (intOf i).toNat)
      case atStart => exact ⟨0, by decide, rfl, Lib.hid (OwnsR'.nil _ _ _ _), Lib.hid (Below.refl _ _)⟩
      case round =>
        obtain ⟨k, hk, rfl, HO, KR⟩ := hrel
        by_cases hlt : k < 9
        · have hx1 : (k : Int) < 9 := by omega
          obtain ⟨h1, h2, h3⟩ := HSEC.out k hlt
          have HRD := Lib.hid (dread_is (HD5.out.more KR.out) (k : Int))
          rw [h1] at HRD
          have HTK := Lib.hid (secR_take h2)
          have HTL : Hid ((secR (D5.secs.take k)).length ≤ 9) := Lib.hid (by unfold secR; rw [List.length_map, List.length_take]; omega)
          obtain ⟨S, hS⟩ : ∃ S, readS D5 (k : Int) = S := ⟨_, rfl⟩
          rw [hS] at HRD HTK h3
          have HS := Lib.hid h3
          have HLT := Lib.hid hlt
          have hzs := zero_sector
          clear h1 h2 h3 hS hlt hk
          go_wp2_with fail
          refine HRD.out.mono ?_
          rintro e w6 ⟨rfl, b6⟩
          have nz := heap_alloc_new w6 (.cells (cells noughts) 41)
          have nS := heap_alloc_new w6 (.cells (cells S) 41)
          have eS := World.setRow_alloc_new w6 (cells noughts) (cells S) 41
          have bS := below_box w6 (.cells (cells S) 41)
          obtain ⟨w7, hw7⟩ : ∃ x, w6.alloc (.cells (cells S) 41) = x := ⟨_, rfl⟩
          rw [hw7] at eS bS nS
          obtain ⟨g6, hg6⟩ : ∃ x, w6.heap.size = x := ⟨_, rfl⟩
          rw [hg6] at nz nS eS
          have K7 := Lib.hid (below_next (below_next KR.out b6) bS)
          have HO7 := Lib.hid ((HO.out.below b6).below bS)
          have L7 := Lib.hid (block_cells HS.out nS)
          have nS8 := heap_alloc_new w7 (.cells (cells S) 41)
          have bS8 := below_box w7 (.cells (cells S) 41)
          obtain ⟨w8, hw8⟩ : ∃ x, w7.alloc (.cells (cells S) 41) = x := ⟨_, rfl⟩
          rw [hw8] at bS8 nS8
          obtain ⟨g7, hg7⟩ : ∃ x, w7.heap.size = x := ⟨_, rfl⟩
          rw [hg7] at nS8
          have K8 := Lib.hid (below_next K7.out bS8)
          have HO8 := Lib.hid (HO7.out.below bS8)
          have HRO := Lib.hid (reads_oneS HS.out nS8)
          have HW8 : Hid (w5.heap.size ≤ w8.heap.size) := Lib.hid K8.out.size
          clear b6 bS nS hw7 bS8 nS8
          go_wp2_with (first
            | (refine wpList_store_sector rfl _ _ rfl g6 S rfl rfl HS.out _ _ nz rfl ?_; rw [eS])
            | (refine wpList_load_sector rfl _ rfl g6 0 S rfl HS.out L7.out ?_)
            | (refine wpList_slice_sectorS rfl _ rfl S rfl HS.out ?_; rw [hw8, hg7])
            | (at_builtin; refine wpList_append_rows' rfl _ _ 39 rfl w5.heap.size 41 _ 128 128 Try.underlying39 info_sec rfl (by decide) _ (secR (D5.secs.take k)) (by rfl) HO8.out _ _ [S.map byteV] (by rfl) HRO.out (one_sec S) (by have := HTL.out; simp; omega) (by have := HTL.out; unfold maxLen; simp; omega) HW8.out ?_; intro v9 w9 o9 g9)
            | fail)
          have h1 := HLT.out
          go_roundw
          case rel => exact ⟨k + 1, HLT.out, by go_num, Lib.hid (by rw [HTK.out]; exact o9), Lib.hid (K8.out.grown g9 HW8.out (fun j hj => (HO8.out.lt j hj).1))⟩
          case measure => simp [intOf]; omega
        · obtain rfl : k = 9 := by omega
          have hx1 : ¬ ((9 : Nat) : Int) < 9 := by omega
          rw [List.take_of_length_le (by rw [HE5.out.1]; exact Nat.le_refl _)] at HO
          clear hlt hk
          go_wp2_with fail
          go_meet
          exact ⟨HO, KR⟩
    case rest =>
      obtain ⟨HSF, KR⟩ := hcut
      have HDC := Lib.hid (HD5.out.more KR.out)
      generalize u10 = vs at *
      have hn30 : 0 ≤ max arm 0 % 30 ∧ max arm 0 % 30 < 30 := ⟨Int.emod_nonneg _ (by decide), Int.emod_lt_of_pos _ (by decide)⟩
      go_wp2_with fail
      refine (darm_is (max arm 0 % 30) HDC.out (by omega)).mono ?_
      rintro e w10 ⟨rfl, hd10, o10⟩
      obtain ⟨D6, hD6⟩ : ∃ x, armD D5 (max arm 0 % 30) = x := ⟨_, rfl⟩
      have hs6 : D6.secs = D5.secs ∧ D6.cache = [] ∧ D6.deeds ≤ 41 := by
        rw [← hD6]
        exact ⟨(armI_armD _ _).1, (armI_armD _ _).2.trans HE5.out.2.1, by rw [armD_deeds]; exact HE5.out.2.2.2⟩
      rw [hD6] at hd10
      have HD6 := Lib.hid hs6
      have k10 : DKeeps g gs cv5 wc w10 := DKeeps.of_g o10
      have HBAG : Hid (Bag w w1.heap.size g gs w5.heap.size w10.heap.size cv5 vs (.slice none 0 0) (.slice none 0 0) D6 D5.secs [] [] w10) := Lib.hid (by
        have l1 := HLT5.out
        have l2 := KR.out.size
        have l3 := k10.size
        have l4 := HW1.out
        have hsf := HSF.out
        refine ⟨hd10, hsf.dkeeps2 HDC.out k10 l1.1 l1.2.1 (by decide), OwnsR'.nil _ _ _ _, OwnsR'.nil _ _ _ _, (below_next HB5.out KR.out).trans ((k10.below HDC.out HDC.out.size).mono HW1.out), fun j hj => ?_, l1.1, l1.2.1, by omega, Nat.le_refl _, by omega, HW1.out⟩
        have := hsf.lt j hj
        omega)
      clear hd10 o10 k10 hD6 hs6 HSF KR HDC hn30
      go_upto_block 4 with fail
      go_cut [14, 15] (fun v14 v15 wc => ∃ (D : DiskD) (cv : Value) (ws : List (Nat × Nat)), Hid (Bag w w1.heap.size g gs w5.heap.size w10.heap.size cv vs v14 v15 D D5.secs ws (D.cache.map (·.2)) wc) ∧ Hid (D.secs = D5.secs ∧ ws.map (·.1) = D.cache.map (·.1)) ∧ D.cache.length ≤ 40)
      case first =>
        go_wp2_with fail
        go_loopw [14, 15, 16] (fun v14 v15 i wr => ∃ (j : Nat) (D : DiskD) (cv : Value) (ws : List (Nat × Nat)) (ta : Option Addr) (m tc : Nat), j ≤ L ∧ j ≤ 40 ∧ i = .int .i64 (j : Int) ∧ v15 = .slice ta m tc ∧ Hid ((secR (D.cache.map (·.2))).length = m) ∧ Hid (Bag w w1.heap.size g gs w5.heap.size w10.heap.size cv vs v14 v15 D D5.secs ws (D.cache.map (·.2)) wr) ∧ Hid (D.secs = D5.secs ∧ ws.map (·.1) = D.cache.map (·.1)) ∧ D.deeds ≤ 41 + j ∧ D.cache.length ≤ j) (fun _ _ i _ => 40 - (intOf i).toNat)
        case atStart =>
          have e2 := HD6.out.2.1
          exact ⟨0, D6, cv5, [], none, 0, 0, Nat.zero_le _, by decide, rfl, rfl, Lib.hid (by rw [e2]; rfl), by rw [e2]; exact HBAG, Lib.hid ⟨HD6.out.1, by rw [e2]; rfl⟩, HD6.out.2.2, by rw [e2]; exact Nat.zero_le _⟩
        case round =>
          obtain ⟨j, D, cv, ws, ta, m, tc, hj1, hj2, rfl, rfl, HM, HB, HS, hde, hca⟩ := hrel
          generalize u14 = v14 at *
          clear HBAG
          by_cases hlt : j < L
          · by_cases h40 : j < 40
            · obtain ⟨⟨kd, at_, sa, sn, sc, ka1, kn1, kc1, S, ks1⟩, hx⟩ : ∃ x, l[j]? = some x := ⟨_, List.getElem?_eq_getElem (by rw [HLN.out]; exact hlt)⟩
              obtain ⟨p1, p2, ⟨p3, p4⟩, p5, p6⟩ := HF.out _ (List.mem_of_getElem? hx)
              dsimp only at p1 p2 p3 p4 p5 p6
              obtain ⟨b, off, rfl, hb, hc⟩ := (HR.out.below HB.out.below).row (rowsOf_get hx)
              have c1 : wr.cell? ⟨b, off + j * 4 + 1, none⟩ = some (.int .i64 at_) := by have := hc 1 _ rfl; rwa [← Nat.add_assoc] at this
              have c2 : wr.cell? ⟨b, off + j * 4 + 2, none⟩ = some (.slice sa sn sc) := by have := hc 2 _ rfl; rwa [← Nat.add_assoc] at this
              have hx1 : (0 : Int) ≤ (j : Int) := by omega
              have hx2 : (j : Int) < (L : Int) := by omega
              have hx3 : (j : Int) < 40 := by omega
              have HFU := Lib.hid (fun (W : World) (hW : Below wr.heap.size wr W) => full_any sa sn sc S W (p3.below (below_next HB.out.below hW)) p4)
              have HX8 := Lib.hid (fullL_length S)
              have HXB := Lib.hid (fullL_bytes p3.2.1)
              obtain ⟨X, hX⟩ : ∃ X, fullL S = X := ⟨_, rfl⟩
              rw [hX] at HX8 HXB
              simp only [hX] at HFU
              obtain ⟨A, hA, hA9⟩ : ∃ A : Nat, (Int.tmod at_ 9 + 9) % 9 = (A : Int) ∧ A < 9 := ⟨((Int.tmod at_ 9 + 9) % 9).toNat, by omega, by omega⟩
              have htm : -9 < Int.tmod at_ 9 ∧ Int.tmod at_ 9 < 9 := ⟨by have := Int.lt_tmod_of_pos at_ (show (0:Int) < 9 by decide); omega, Int.tmod_lt_of_pos at_ (by decide)⟩
              have hwr : IntKind.i64.wrap (Int.tmod at_ 9 + 9) = Int.tmod at_ 9 + 9 := IntWalk.i64_in _ (by omega)
              have hA2 : Int.tmod (Int.tmod at_ 9 + 9) 9 = (A : Int) := by rw [Int.tmod_eq_emod_of_nonneg (by omega)]; exact hA
              have HLT := Lib.hid hlt
              have HJ4 := Lib.hid h40
              have HDC := Lib.hid (And.intro hde hca)
              have HA9 := Lib.hid hA9
              clear p1 p2 p3 p4 p5 p6 hc hx hb hlt h40 hX
              go_wp2_with fail
              refine (HFU.out wr (Below.refl _ _)).mono ?_
              rintro e w11 ⟨rfl, b11⟩
              have nz := heap_alloc_new w11 (.cells (cells noughts) 40)
              have nS := heap_alloc_new w11 (.cells (cells X) 40)
              have eS := World.setRow_alloc_new w11 (cells noughts) (cells X) 40
              have bS := below_box w11 (.cells (cells X) 40)
              obtain ⟨w12, hw12⟩ : ∃ x, w11.alloc (.cells (cells X) 40) = x := ⟨_, rfl⟩
              rw [hw12] at eS bS nS
              obtain ⟨g8, hg8⟩ : ∃ x, w11.heap.size = x := ⟨_, rfl⟩
              rw [hg8] at nz nS eS
              have HB12 := Lib.hid ((HB.out.more b11).more bS)
              have NX := Lib.hid nS
              have L8 := Lib.hid (block_cells HX8.out nS)
              have hzf := zero_full
              clear b11 bS nS hw12 c1 c2
              go_wp2_with (first
                | (refine wpList_store_full rfl _ _ rfl g8 X rfl rfl HX8.out _ _ nz rfl ?_; rw [eS])
                | (refine wpList_load_full rfl _ rfl g8 0 X rfl HX8.out L8.out ?_)
                | fail)
              clear nz eS hzf hA hA2 hwr htm
              refine (dwrite_is HB12.out.disk (by have := HDC.out.1; omega) (by have := HDC.out.2; omega) (A : Int) X HX8.out HXB.out).mono ?_
              rintro e w13 ⟨rfl, ⟨cv', hd'⟩, k13⟩
              have hwt := write_there (D := D) (A := A) (by rw [HS.out.1, HE5.out.1]; exact HA9.out) X
              obtain ⟨D', hD'⟩ : ∃ x, writeD D (A : Int) X = x := ⟨_, rfl⟩
              rw [hD'] at hwt hd'
              have HWT := Lib.hid hwt
              have HB13 := Lib.hid (HB12.out.does k13 hd')
              have NX13 := Lib.hid ((k13.block g8 (Array.getElem?_eq_some_iff.1 NX.out).1 (nblock NX.out HB12.out.disk.1 (by decide)) (nblock NX.out HB12.out.disk.2.1 (by decide)) (by
                intro e9
                obtain ⟨_, ⟨rfl, _⟩ | ⟨g9, c9, cur9, rfl, _, hg9, _⟩⟩ := HB12.out.disk.2.2.1
                · cases e9
                · have : g9 = g8 := Option.some.inj e9
                  exact nblock NX.out hg9 (by decide) this.symm)).trans NX.out)
              clear hd' k13 hwt hD' HB12 NX L8
              have hml : D.cache.length = m := by have h1 := HM.out; unfold secR at h1; rw [List.length_map, List.length_map] at h1; exact h1
              have HML := Lib.hid hml
              go_wp2_with fail
              refine (dqueue_is HB13.out.disk).mono ?_
              rintro e w14 ⟨gq, rfl, _, _, b14⟩
              have HB14 := Lib.hid (HB13.out.more b14)
              have NX14 := Lib.hid ((b14.block g8 (Array.getElem?_eq_some_iff.1 NX13.out).1).trans NX13.out)
              have hm40 : m ≤ 40 := by have h1 := HDC.out.2; have h2 := HJ4.out; omega
              clear b14 HB13 NX13
              obtain ⟨q, hq⟩ : ∃ q, D'.cache.length = q := ⟨_, rfl⟩
              rw [hq]
              by_cases hdead : D.dead = true
              · have hqm : q = m := by rw [← hq, HWT.out.2.1, if_pos hdead]; exact HML.out
                have hcc : D'.cache = D.cache := by rw [HWT.out.2.1, if_pos hdead]
                have HEND : Hid (D'.secs = D5.secs ∧ ws.map (·.1) = D'.cache.map (·.1)) := Lib.hid ⟨HWT.out.1.trans HS.out.1, by rw [hcc]; exact HS.out.2⟩
                have HB15 : Hid (Bag w w1.heap.size g gs w5.heap.size w10.heap.size cv' vs v14 (.slice ta m tc) D' D5.secs ws (D'.cache.map (·.2)) w14) := Lib.hid (by rw [hcc]; exact HB14.out)
                have HM2 : Hid ((secR (D'.cache.map (·.2))).length = m) := Lib.hid (by rw [hcc]; exact HM.out)
                have HDC2 : Hid (D'.deeds ≤ 41 + (j + 1) ∧ D'.cache.length ≤ j + 1) := Lib.hid ⟨by have := HWT.out.2.2; have := HDC.out.1; omega, by rw [hcc]; have := HDC.out.2; omega⟩
                have hng : ¬ (m : Int) < (q : Int) := by omega
                clear hcc hdead hqm hml hm40
                go_wp2
                have h1 := HLT.out
                have h2 := HJ4.out
                go_roundw
                case rel => exact ⟨j + 1, D', cv', ws, ta, m, tc, HLT.out, HJ4.out, by go_num, rfl, HM2, HB15, HEND, HDC2.out.1, HDC2.out.2⟩
                case measure => simp [intOf]; omega
              · have hcc : D'.cache = D.cache ++ [(A, X)] := by rw [HWT.out.2.1, if_neg hdead]
                have hqm : q = m + 1 := by rw [← hq, hcc, List.length_append, HML.out]; rfl
                obtain ⟨ts, hts⟩ : ∃ x, D.cache.map (·.2) = x := ⟨_, rfl⟩
                have HTS : Hid (D'.cache.map (·.2) = ts ++ [X]) := Lib.hid (by rw [hcc, List.map_append, hts]; rfl)
                rw [hts] at HB14 HM
                have HTL : Hid ((secR ts).length ≤ 40) := Lib.hid (by have := HM.out; omega)
                have HWL : Hid ((pairsV ws).length ≤ 40) := Lib.hid (by
                  have h1 := congrArg List.length HS.out.2
                  unfold pairsV
                  rw [List.length_map] at h1 ⊢
                  rw [List.length_map] at h1
                  omega)
                have HEND : Hid ((secR (D'.cache.map (·.2))).length = (secR (ts ++ [X])).length ∧ Hid (D'.secs = D5.secs ∧ (ws ++ [(A, j)]).map (·.1) = D'.cache.map (·.1)) ∧ D'.deeds ≤ 41 + (j + 1) ∧ D'.cache.length ≤ j + 1) := Lib.hid ⟨by rw [HTS.out], Lib.hid ⟨HWT.out.1.trans HS.out.1, by rw [hcc, List.map_append, List.map_append, HS.out.2]; rfl⟩, by have := HWT.out.2.2; have := HDC.out.1; omega, by rw [hcc, List.length_append]; have := HDC.out.2; simp; omega⟩
                have hgt : (m : Int) < (q : Int) := by omega
                have HVM : Hid (∃ x, x = m) := Lib.hid ⟨_, rfl⟩
                clear hcc hdead hqm hml hts hq
                go_wp2_with fail
                clear hgt hm40
                have n14 := NX14.out
                refine wp_region_held_drew (S := fun W => W.rangeAt g8 0 (X.map byteV)) (by kernel_rfl) (range_of (w := w14.drew) n14) (fun hHeld => ?_)
                have HBw15 := Lib.hid (HB14.out.more (below_drew w14))
                have NXw15 : Hid (w14.drew.heap[g8]? = some (.cells (cells X) 40 (0, 0))) := Lib.hid n14
                clear n14 NX14 HB14
                generalize w14.drew = w15 at *
                obtain ⟨d128, hu128, hr128⟩ := row_arr128
                have h128 : (Try.prog.info? 40).map (·.size) = some (X.map byteV).length := by rw [List.length_map, HX8.out]; exact size_arr128
                refine wpAnyH_take (i := 0) (v := v14) rfl (by kernel_rfl) (by kernel_rfl) (by kernel_rfl) (fun _ _ _ h => h) (Or.inl ⟨by rfl, by intro W hSw; clear hSw; go_simp⟩) (by assumption) ?_
                try simp only [List.getElem_toArray, List.getElem_cons_zero, List.getElem_cons_succ, Act.put, List.setIfInBounds_toArray, List.set_cons_zero, List.set_cons_succ]
                refine wpAnyH_take (i := 1) (v := .int .i64 (A : Int)) rfl (by kernel_rfl) (by kernel_rfl) (by kernel_rfl) (fun _ _ _ h => h) (Or.inl ⟨by rfl, by intro W hSw; clear hSw; go_simp⟩) (by assumption) ?_
                try simp only [List.getElem_toArray, List.getElem_cons_zero, List.getElem_cons_succ, Act.put, List.setIfInBounds_toArray, List.set_cons_zero, List.set_cons_succ]
                refine wpAnyH_take (i := 2) (v := .int .i64 (j : Int)) rfl (by kernel_rfl) (by kernel_rfl) (by kernel_rfl) (fun _ _ _ h => h) (Or.inl ⟨by rfl, by intro W hSw; clear hSw; go_simp⟩) (by assumption) ?_
                try simp only [List.getElem_toArray, List.getElem_cons_zero, List.getElem_cons_succ, Act.put, List.setIfInBounds_toArray, List.set_cons_zero, List.set_cons_succ]
                refine wpAnyH_take (i := 3) (v := .agg #[.int .i64 (A : Int), .int .i64 (j : Int)]) rfl (by kernel_rfl) (by kernel_rfl) (by kernel_rfl) (fun _ _ _ h => h) (Or.inl ⟨by rfl, by intro W hSw; clear hSw; go_simp⟩) (by assumption) ?_
                try simp only [List.getElem_toArray, List.getElem_cons_zero, List.getElem_cons_succ, Act.put, List.setIfInBounds_toArray, List.set_cons_zero, List.set_cons_succ]
                refine wpAnyH_take (i := 6) (v := .slice ta m tc) rfl (by kernel_rfl) (by kernel_rfl) (by kernel_rfl) (fun _ _ _ h => h) (Or.inl ⟨by rfl, by intro W hSw; clear hSw; go_simp⟩) (by assumption) ?_
                try simp only [List.getElem_toArray, List.getElem_cons_zero, List.getElem_cons_succ, Act.put, List.setIfInBounds_toArray, List.set_cons_zero, List.set_cons_succ]
                refine wpAnyH_take (i := 7) (v := .agg (cells X)) rfl (by kernel_rfl) (by kernel_rfl) (by kernel_rfl) (fun _ _ _ h => h) (yieldsIf_load_mid (by rfl) 40 _ rfl g8 0 (by rfl) (X.map byteV) d128 (fun W hW => hW) hu128 hr128 h128) (by assumption) ?_
                try simp only [List.getElem_toArray, List.getElem_cons_zero, List.getElem_cons_succ, Act.put, List.setIfInBounds_toArray, List.set_cons_zero, List.set_cons_succ]
                clear hHeld hu128 hr128 h128
                refine wpAnyH_ready (rs := [4, 8]) (by kernel_rfl) (by simp) ?_
                refine AllReadyH.cons rfl (fun K hK => ?_) (AllReadyH.cons rfl (fun K hK => ?_) AllReadyH.nil)
                · obtain ⟨w13, hw13⟩ : ∃ x, World.alloc w15 (.cells #[.int .i64 (A : Int), .int .i64 (j : Int)] 50) = x := ⟨_, rfl⟩
                  obtain ⟨gpw13, hgpw13⟩ : ∃ x, w15.heap.size = x := ⟨_, rfl⟩
                  have nbw13 := below_box w15 (.cells #[.int .i64 (A : Int), .int .i64 (j : Int)] 50)
                  have npw13 := heap_alloc_new w15 (.cells #[.int .i64 (A : Int), .int .i64 (j : Int)] 50)
                  rw [hw13] at nbw13 npw13
                  rw [hgpw13] at npw13
                  have HBw13 := Lib.hid (HBw15.out.more nbw13)
                  have NP := Lib.hid npw13
                  have NXw13 := Lib.hid ((nbw13.block g8 (Array.getElem?_eq_some_iff.1 NXw15.out).1).trans NXw15.out)
                  refine step_slice_pair (by rfl) _ rfl (A : Int) (j : Int) (by rfl) ?_
                  rw [hw13, hgpw13]
                  clear hw13 npw13 nbw13
                  generalize gpw13 = gp at *
                  refine hK.out _ _ (range_of NXw13.out) (fun hHeld => ?_)
                  clear hK K
                  try simp only [List.getElem_toArray, List.getElem_cons_zero, List.getElem_cons_succ, Act.put, List.setIfInBounds_toArray, List.set_cons_zero, List.set_cons_succ]
                  refine wpAnyH_ready (rs := [5, 8]) (by kernel_rfl) (by simp) ?_
                  refine AllReadyH.cons rfl (fun K hK => ?_) (AllReadyH.cons rfl (fun K hK => ?_) AllReadyH.nil)
                  · refine step_append_row_at (by rfl) _ _ 45 rfl w10.heap.size 50 _ 2 16 Try.underlying45 info_pair rfl (by decide) v14 (pairsV ws) (by rfl) HBw13.out.wrote gp 1 [.int .i64 (A : Int), .int .i64 (j : Int)] (by rfl) rfl (fun i u hu => (cell_of_row NP.out i).trans (by rw [List.getElem?_toArray]; exact hu)) (by intro u hu; simp only [List.mem_cons, List.not_mem_nil, or_false] at hu; rcases hu with rfl | rfl <;> rfl) (by have := HWL.out; omega) (by have := HWL.out; unfold maxLen; omega) HBw13.out.hb.2.2.2.1 ?_
                    intro vw2 w14 ow14 gw14
                    have HBw14 := Lib.hid (HBw13.out.pushW (ws' := ws ++ [(A, j)]) (by rw [pairs_snoc]; exact ow14) gw14)
                    have NXw14 := Lib.hid (HBw13.out.wrote.other NXw13.out (by decide) gw14)
                    clear ow14 gw14
                    refine hK.out _ _ (range_of NXw14.out) (fun hHeld => ?_)
                    clear hK K
                    try simp only [List.getElem_toArray, List.getElem_cons_zero, List.getElem_cons_succ, Act.put, List.setIfInBounds_toArray, List.set_cons_zero, List.set_cons_succ]
                    refine wpAnyH_ready (rs := [8]) (by kernel_rfl) (by simp) ?_
                    refine AllReadyH.cons rfl (fun K hK => ?_) AllReadyH.nil
                    obtain ⟨w15, hw15⟩ : ∃ x, World.alloc w14 (.cells (cells X) 41) = x := ⟨_, rfl⟩
                    obtain ⟨gqw15, hgpw15⟩ : ∃ x, w14.heap.size = x := ⟨_, rfl⟩
                    have nbw15 := below_box w14 (.cells (cells X) 41)
                    have npw15 := heap_alloc_new w14 (.cells (cells X) 41)
                    rw [hw15] at nbw15 npw15
                    rw [hgpw15] at npw15
                    have HBw15 := Lib.hid (HBw14.out.more nbw15)
                    obtain ⟨gs8, hgs8⟩ : ∃ x, gqw15 = x := ⟨_, rfl⟩
                    rw [hgs8] at npw15
                    have NS := Lib.hid npw15
                    have NXw15 := Lib.hid ((nbw15.block g8 (Array.getElem?_eq_some_iff.1 NXw14.out).1).trans NXw14.out)
                    refine step_slice_sectorS (by rfl) _ rfl X (by rfl) HX8.out ?_
                    rw [hw15, hgpw15, hgs8]
                    clear hw15 npw15 nbw15
                    refine hK.out _ _ (range_of NXw15.out) (fun hHeld => ?_)
                    clear hK K
                    try simp only [List.getElem_toArray, List.getElem_cons_zero, List.getElem_cons_succ, Act.put, List.setIfInBounds_toArray, List.set_cons_zero, List.set_cons_succ]
                    refine wpAnyH_ready (rs := [9]) (by kernel_rfl) (by simp) ?_
                    refine AllReadyH.cons rfl (fun K hK => ?_) AllReadyH.nil
                    refine step_append_row_at (by rfl) _ _ 39 rfl w10.heap.size 41 _ 128 128 Try.underlying39 info_sec rfl (by decide) (.slice ta m tc) (secR ts) (by rfl) HBw15.out.what gs8 1 (X.map byteV) (by rfl) (by rw [List.length_map, HX8.out]) (fun i u hu => (cell_of_row NS.out i).trans (by unfold cells; rw [List.getElem?_toArray]; exact hu)) (byteV_oneCell X) (by have := HTL.out; omega) (by have := HTL.out; unfold maxLen; omega) HBw15.out.hb.2.2.2.1 ?_
                    intro vt2 w16 ow16 gw16
                    have HBw16 := Lib.hid (HBw15.out.pushT (ts' := ts ++ [X]) (by rw [secR_snoc]; exact ow16) gw16)
                    have NXw16 := Lib.hid (HBw15.out.what.other NXw15.out (by decide) gw16)
                    clear ow16 gw16
                    refine hK.out _ _ (range_of NXw16.out) (fun hHeld => ?_)
                    clear hK K
                    try simp only [List.getElem_toArray, List.getElem_cons_zero, List.getElem_cons_succ, Act.put, List.setIfInBounds_toArray, List.set_cons_zero, List.set_cons_succ]
                    refine wpAnyH_take (i := 10) (v := vw2) rfl (by kernel_rfl) (by kernel_rfl) (by kernel_rfl) (fun _ _ _ h => h) (Or.inl ⟨by rfl, by intro W hSw; clear hSw; go_simp⟩) (by assumption) ?_
                    try simp only [List.getElem_toArray, List.getElem_cons_zero, List.getElem_cons_succ, Act.put, List.setIfInBounds_toArray, List.set_cons_zero, List.set_cons_succ]
                    refine wpAnyH_take (i := 11) (v := vt2) rfl (by kernel_rfl) (by kernel_rfl) (by kernel_rfl) (fun _ _ _ h => h) (Or.inl ⟨by rfl, by intro W hSw; clear hSw; go_simp⟩) (by assumption) ?_
                    try simp only [List.getElem_toArray, List.getElem_cons_zero, List.getElem_cons_succ, Act.put, List.setIfInBounds_toArray, List.set_cons_zero, List.set_cons_succ]
                    refine wpAnyH_done (by kernel_rfl) ?_ _
                    obtain ⟨ta2, tc2, ev, _, _, _⟩ := HBw16.out.what.reads
                    subst ev
                    try (clear h18' hS0' hHeld)
                    go_wp2
                    have h1 := HLT.out
                    have h2 := HJ4.out
                    go_roundw
                    case rel => exact ⟨j + 1, D', cv', ws ++ [(A, j)], ta2, _, tc2, HLT.out, HJ4.out, by go_num, rfl, Lib.hid HEND.out.1, by rw [HTS.out]; exact HBw16, HEND.out.2.1, HEND.out.2.2.1, HEND.out.2.2.2⟩
                    case measure => simp [intOf]; omega
                  · obtain ⟨w17, hw17⟩ : ∃ x, World.alloc w13 (.cells (cells X) 41) = x := ⟨_, rfl⟩
                    obtain ⟨gqw17, hgpw17⟩ : ∃ x, w13.heap.size = x := ⟨_, rfl⟩
                    have nbw17 := below_box w13 (.cells (cells X) 41)
                    have npw17 := heap_alloc_new w13 (.cells (cells X) 41)
                    rw [hw17] at nbw17 npw17
                    rw [hgpw17] at npw17
                    have HBw17 := Lib.hid (HBw13.out.more nbw17)
                    obtain ⟨gs8, hgs8⟩ : ∃ x, gqw17 = x := ⟨_, rfl⟩
                    rw [hgs8] at npw17
                    have NS := Lib.hid npw17
                    have NXw17 := Lib.hid ((nbw17.block g8 (Array.getElem?_eq_some_iff.1 NXw13.out).1).trans NXw13.out)
                    have NP := Lib.hid ((nbw17.block gp (Array.getElem?_eq_some_iff.1 NP.out).1).trans NP.out)
                    refine step_slice_sectorS (by rfl) _ rfl X (by rfl) HX8.out ?_
                    rw [hw17, hgpw17, hgs8]
                    clear hw17 npw17 nbw17
                    refine hK.out _ _ (range_of NXw17.out) (fun hHeld => ?_)
                    clear hK K
                    try simp only [List.getElem_toArray, List.getElem_cons_zero, List.getElem_cons_succ, Act.put, List.setIfInBounds_toArray, List.set_cons_zero, List.set_cons_succ]
                    refine wpAnyH_ready (rs := [5]) (by kernel_rfl) (by simp) ?_
                    refine AllReadyH.cons rfl (fun K hK => ?_) AllReadyH.nil
                    refine step_append_row_at (by rfl) _ _ 45 rfl w10.heap.size 50 _ 2 16 Try.underlying45 info_pair rfl (by decide) v14 (pairsV ws) (by rfl) HBw17.out.wrote gp 1 [.int .i64 (A : Int), .int .i64 (j : Int)] (by rfl) rfl (fun i u hu => (cell_of_row NP.out i).trans (by rw [List.getElem?_toArray]; exact hu)) (by intro u hu; simp only [List.mem_cons, List.not_mem_nil, or_false] at hu; rcases hu with rfl | rfl <;> rfl) (by have := HWL.out; omega) (by have := HWL.out; unfold maxLen; omega) HBw17.out.hb.2.2.2.1 ?_
                    intro vw2 w18 ow18 gw18
                    have HBw18 := Lib.hid (HBw17.out.pushW (ws' := ws ++ [(A, j)]) (by rw [pairs_snoc]; exact ow18) gw18)
                    have NXw18 := Lib.hid (HBw17.out.wrote.other NXw17.out (by decide) gw18)
                    have NS := Lib.hid (HBw17.out.wrote.other NS.out (by decide) gw18)
                    clear ow18 gw18
                    refine hK.out _ _ (range_of NXw18.out) (fun hHeld => ?_)
                    clear hK K
                    try simp only [List.getElem_toArray, List.getElem_cons_zero, List.getElem_cons_succ, Act.put, List.setIfInBounds_toArray, List.set_cons_zero, List.set_cons_succ]
                    refine wpAnyH_ready (rs := [9]) (by kernel_rfl) (by simp) ?_
                    refine AllReadyH.cons rfl (fun K hK => ?_) AllReadyH.nil
                    refine step_append_row_at (by rfl) _ _ 39 rfl w10.heap.size 41 _ 128 128 Try.underlying39 info_sec rfl (by decide) (.slice ta m tc) (secR ts) (by rfl) HBw18.out.what gs8 1 (X.map byteV) (by rfl) (by rw [List.length_map, HX8.out]) (fun i u hu => (cell_of_row NS.out i).trans (by unfold cells; rw [List.getElem?_toArray]; exact hu)) (byteV_oneCell X) (by have := HTL.out; omega) (by have := HTL.out; unfold maxLen; omega) HBw18.out.hb.2.2.2.1 ?_
                    intro vt2 w19 ow19 gw19
                    have HBw19 := Lib.hid (HBw18.out.pushT (ts' := ts ++ [X]) (by rw [secR_snoc]; exact ow19) gw19)
                    have NXw19 := Lib.hid (HBw18.out.what.other NXw18.out (by decide) gw19)
                    clear ow19 gw19
                    refine hK.out _ _ (range_of NXw19.out) (fun hHeld => ?_)
                    clear hK K
                    try simp only [List.getElem_toArray, List.getElem_cons_zero, List.getElem_cons_succ, Act.put, List.setIfInBounds_toArray, List.set_cons_zero, List.set_cons_succ]
                    refine wpAnyH_take (i := 10) (v := vw2) rfl (by kernel_rfl) (by kernel_rfl) (by kernel_rfl) (fun _ _ _ h => h) (Or.inl ⟨by rfl, by intro W hSw; clear hSw; go_simp⟩) (by assumption) ?_
                    try simp only [List.getElem_toArray, List.getElem_cons_zero, List.getElem_cons_succ, Act.put, List.setIfInBounds_toArray, List.set_cons_zero, List.set_cons_succ]
                    refine wpAnyH_take (i := 11) (v := vt2) rfl (by kernel_rfl) (by kernel_rfl) (by kernel_rfl) (fun _ _ _ h => h) (Or.inl ⟨by rfl, by intro W hSw; clear hSw; go_simp⟩) (by assumption) ?_
                    try simp only [List.getElem_toArray, List.getElem_cons_zero, List.getElem_cons_succ, Act.put, List.setIfInBounds_toArray, List.set_cons_zero, List.set_cons_succ]
                    refine wpAnyH_done (by kernel_rfl) ?_ _
                    obtain ⟨ta2, tc2, ev, _, _, _⟩ := HBw19.out.what.reads
                    subst ev
                    try (clear h18' hS0' hHeld)
                    go_wp2
                    have h1 := HLT.out
                    have h2 := HJ4.out
                    go_roundw
                    case rel => exact ⟨j + 1, D', cv', ws ++ [(A, j)], ta2, _, tc2, HLT.out, HJ4.out, by go_num, rfl, Lib.hid HEND.out.1, by rw [HTS.out]; exact HBw19, HEND.out.2.1, HEND.out.2.2.1, HEND.out.2.2.2⟩
                    case measure => simp [intOf]; omega
                · obtain ⟨w20, hw20⟩ : ∃ x, World.alloc w15 (.cells (cells X) 41) = x := ⟨_, rfl⟩
                  obtain ⟨gqw20, hgpw20⟩ : ∃ x, w15.heap.size = x := ⟨_, rfl⟩
                  have nbw20 := below_box w15 (.cells (cells X) 41)
                  have npw20 := heap_alloc_new w15 (.cells (cells X) 41)
                  rw [hw20] at nbw20 npw20
                  rw [hgpw20] at npw20
                  have HBw20 := Lib.hid (HBw15.out.more nbw20)
                  obtain ⟨gs8, hgs8⟩ : ∃ x, gqw20 = x := ⟨_, rfl⟩
                  rw [hgs8] at npw20
                  have NS := Lib.hid npw20
                  have NXw20 := Lib.hid ((nbw20.block g8 (Array.getElem?_eq_some_iff.1 NXw15.out).1).trans NXw15.out)
                  refine step_slice_sectorS (by rfl) _ rfl X (by rfl) HX8.out ?_
                  rw [hw20, hgpw20, hgs8]
                  clear hw20 npw20 nbw20
                  refine hK.out _ _ (range_of NXw20.out) (fun hHeld => ?_)
                  clear hK K
                  try simp only [List.getElem_toArray, List.getElem_cons_zero, List.getElem_cons_succ, Act.put, List.setIfInBounds_toArray, List.set_cons_zero, List.set_cons_succ]
                  refine wpAnyH_ready (rs := [4]) (by kernel_rfl) (by simp) ?_
                  refine AllReadyH.cons rfl (fun K hK => ?_) AllReadyH.nil
                  obtain ⟨w21, hw21⟩ : ∃ x, World.alloc w20 (.cells #[.int .i64 (A : Int), .int .i64 (j : Int)] 50) = x := ⟨_, rfl⟩
                  obtain ⟨gpw21, hgpw21⟩ : ∃ x, w20.heap.size = x := ⟨_, rfl⟩
                  have nbw21 := below_box w20 (.cells #[.int .i64 (A : Int), .int .i64 (j : Int)] 50)
                  have npw21 := heap_alloc_new w20 (.cells #[.int .i64 (A : Int), .int .i64 (j : Int)] 50)
                  rw [hw21] at nbw21 npw21
                  rw [hgpw21] at npw21
                  have HBw21 := Lib.hid (HBw20.out.more nbw21)
                  have NP := Lib.hid npw21
                  have NXw21 := Lib.hid ((nbw21.block g8 (Array.getElem?_eq_some_iff.1 NXw20.out).1).trans NXw20.out)
                  have NS := Lib.hid ((nbw21.block gs8 (Array.getElem?_eq_some_iff.1 NS.out).1).trans NS.out)
                  refine step_slice_pair (by rfl) _ rfl (A : Int) (j : Int) (by rfl) ?_
                  rw [hw21, hgpw21]
                  clear hw21 npw21 nbw21
                  generalize gpw21 = gp at *
                  refine hK.out _ _ (range_of NXw21.out) (fun hHeld => ?_)
                  clear hK K
                  try simp only [List.getElem_toArray, List.getElem_cons_zero, List.getElem_cons_succ, Act.put, List.setIfInBounds_toArray, List.set_cons_zero, List.set_cons_succ]
                  refine wpAnyH_ready (rs := [5]) (by kernel_rfl) (by simp) ?_
                  refine AllReadyH.cons rfl (fun K hK => ?_) AllReadyH.nil
                  refine step_append_row_at (by rfl) _ _ 45 rfl w10.heap.size 50 _ 2 16 Try.underlying45 info_pair rfl (by decide) v14 (pairsV ws) (by rfl) HBw21.out.wrote gp 1 [.int .i64 (A : Int), .int .i64 (j : Int)] (by rfl) rfl (fun i u hu => (cell_of_row NP.out i).trans (by rw [List.getElem?_toArray]; exact hu)) (by intro u hu; simp only [List.mem_cons, List.not_mem_nil, or_false] at hu; rcases hu with rfl | rfl <;> rfl) (by have := HWL.out; omega) (by have := HWL.out; unfold maxLen; omega) HBw21.out.hb.2.2.2.1 ?_
                  intro vw2 w22 ow22 gw22
                  have HBw22 := Lib.hid (HBw21.out.pushW (ws' := ws ++ [(A, j)]) (by rw [pairs_snoc]; exact ow22) gw22)
                  have NXw22 := Lib.hid (HBw21.out.wrote.other NXw21.out (by decide) gw22)
                  have NS := Lib.hid (HBw21.out.wrote.other NS.out (by decide) gw22)
                  clear ow22 gw22
                  refine hK.out _ _ (range_of NXw22.out) (fun hHeld => ?_)
                  clear hK K
                  try simp only [List.getElem_toArray, List.getElem_cons_zero, List.getElem_cons_succ, Act.put, List.setIfInBounds_toArray, List.set_cons_zero, List.set_cons_succ]
                  refine wpAnyH_ready (rs := [9]) (by kernel_rfl) (by simp) ?_
                  refine AllReadyH.cons rfl (fun K hK => ?_) AllReadyH.nil
                  refine step_append_row_at (by rfl) _ _ 39 rfl w10.heap.size 41 _ 128 128 Try.underlying39 info_sec rfl (by decide) (.slice ta m tc) (secR ts) (by rfl) HBw22.out.what gs8 1 (X.map byteV) (by rfl) (by rw [List.length_map, HX8.out]) (fun i u hu => (cell_of_row NS.out i).trans (by unfold cells; rw [List.getElem?_toArray]; exact hu)) (byteV_oneCell X) (by have := HTL.out; omega) (by have := HTL.out; unfold maxLen; omega) HBw22.out.hb.2.2.2.1 ?_
                  intro vt2 w23 ow23 gw23
                  have HBw23 := Lib.hid (HBw22.out.pushT (ts' := ts ++ [X]) (by rw [secR_snoc]; exact ow23) gw23)
                  have NXw23 := Lib.hid (HBw22.out.what.other NXw22.out (by decide) gw23)
                  clear ow23 gw23
                  refine hK.out _ _ (range_of NXw23.out) (fun hHeld => ?_)
                  clear hK K
                  try simp only [List.getElem_toArray, List.getElem_cons_zero, List.getElem_cons_succ, Act.put, List.setIfInBounds_toArray, List.set_cons_zero, List.set_cons_succ]
                  refine wpAnyH_take (i := 10) (v := vw2) rfl (by kernel_rfl) (by kernel_rfl) (by kernel_rfl) (fun _ _ _ h => h) (Or.inl ⟨by rfl, by intro W hSw; clear hSw; go_simp⟩) (by assumption) ?_
                  try simp only [List.getElem_toArray, List.getElem_cons_zero, List.getElem_cons_succ, Act.put, List.setIfInBounds_toArray, List.set_cons_zero, List.set_cons_succ]
                  refine wpAnyH_take (i := 11) (v := vt2) rfl (by kernel_rfl) (by kernel_rfl) (by kernel_rfl) (fun _ _ _ h => h) (Or.inl ⟨by rfl, by intro W hSw; clear hSw; go_simp⟩) (by assumption) ?_
                  try simp only [List.getElem_toArray, List.getElem_cons_zero, List.getElem_cons_succ, Act.put, List.setIfInBounds_toArray, List.set_cons_zero, List.set_cons_succ]
                  refine wpAnyH_done (by kernel_rfl) ?_ _
                  obtain ⟨ta2, tc2, ev, _, _, _⟩ := HBw23.out.what.reads
                  subst ev
                  try (clear h18' hS0' hHeld)
                  go_wp2
                  have h1 := HLT.out
                  have h2 := HJ4.out
                  go_roundw
                  case rel => exact ⟨j + 1, D', cv', ws ++ [(A, j)], ta2, _, tc2, HLT.out, HJ4.out, by go_num, rfl, Lib.hid HEND.out.1, by rw [HTS.out]; exact HBw23, HEND.out.2.1, HEND.out.2.2.1, HEND.out.2.2.2⟩
                  case measure => simp [intOf]; omega
            · have hx2 : (j : Int) < (L : Int) := by omega
              have hx3 : ¬ (j : Int) < 40 := by omega
              go_wp2_with fail
              go_meet
              exact ⟨D, cv, ws, HB, HS, by omega⟩
          · have hx2 : ¬ (j : Int) < (L : Int) := by omega
            go_wp2_with fail
            go_meet
            exact ⟨D, cv, ws, HB, HS, by omega⟩
      case rest =>
        obtain ⟨D, cv, ws, HB, HS, hca⟩ := hcut
        clear HBAG
        generalize u14 = vw at *
        generalize u15 = vt at *
        have HKC : Hid (ReadsB wc ka kn ks) := Lib.hid (readsB_below HK.out.1 HB.out.below)
        have hne : ks ≠ [] → ∀ x, ka = some x → x.block ≠ g ∧ x.block ≠ gs ∧ cv.ownBlock ≠ some x.block := fun hne x hx => by
          rcases HK.out.1.2 with h0 | ⟨b9, o9, he, hb9, _⟩
          · exact absurd h0 hne
          · rw [hx] at he
            have h9 := HW1.out
            obtain ⟨_, _, k3, _, k5, k6⟩ := HB.out.disk
            have hxb : x.block < w.heap.size := by rw [Option.some.inj he]; exact hb9
            exact ⟨by omega, by omega, fun e => by have := (World.ownsRow.lt k3 _ e).1; omega⟩
        go_wp2_with fail
        refine (dcrash_is ka kn kc ks HB.out.disk HKC.out HK.out.2 hne).mono ?_
        rintro e w20 ⟨rfl, hd20, k20⟩
        have hb20 := HB.out.does k20 hd20
        have HKR : Hid (ReadsB w20 ka kn ks) := Lib.hid (readsB_below HK.out.1 hb20.below)
        clear hne hd20 k20 HKC
        obtain ⟨n, hn⟩ : ∃ n, D.cache.length = n := ⟨_, rfl⟩
        obtain ⟨C, hC⟩ : ∃ C, D.cache = C := ⟨_, rfl⟩
        obtain ⟨X, hX⟩ : ∃ X, D5.secs = X := ⟨_, rfl⟩
        rw [hC] at hn hb20 HS hca
        rw [hX] at hb20 HS
        have hwn : ws.length = n := by have h1 := congrArg List.length HS.out.2; rw [List.length_map, List.length_map] at h1; omega
        obtain ⟨va, vc, rfl, hvr, _, _⟩ := hb20.safe.reads
        obtain ⟨wa, wcp, rfl, hwr, _, _⟩ := hb20.wrote.reads
        obtain ⟨ta, tc, rfl, htr, _, _⟩ := hb20.what.reads
        have hx9 : X.length = 9 := by rw [← hX]; exact HE5.out.1
        have el1 : (secR X).length = 9 := by unfold secR; rw [List.length_map]; exact hx9
        have el2 : (pairsV ws).length = n := by unfold pairsV; rw [List.length_map]; exact hwn
        have el3 : (secR (C.map (·.2))).length = n := by unfold secR; rw [List.length_map, List.length_map]; exact hn
        rw [el1, el2, el3] at hb20 ⊢
        have HB20 := Lib.hid hb20
        have HVR := Lib.hid hvr
        have HWR := Lib.hid hwr
        have HTR := Lib.hid htr
        have HN : Hid (C.length = n ∧ ws.length = n ∧ n ≤ 40 ∧ X.length = 9) := Lib.hid ⟨hn, hwn, by omega, hx9⟩
        have HWS : Hid (ws.map (·.1) = C.map (·.1)) := HS.out.2
        have HCR : Hid ((crashD D ks).secs = wantL C ks X n ∧ (crashD D ks).cache = [] ∧ (crashD D ks).dead = false) := Lib.hid ⟨by
          rw [want_full C ks X n (by omega)]
          show settles (keepsZ (D.cache.zip ks)) D.secs = _
          rw [hC, HS.out.1], rfl, rfl⟩
        have HCO : Hid (∀ p ∈ C, p.2.length = 128) := Lib.hid (fun p hp => (HB.out.disk.2.2.2.1.2.1 p (by rw [hC]; exact hp)).2.1)
        have HXO : Hid (∀ s ∈ X, s.length = 128) := Lib.hid (fun s hs => (HD5.out.2.2.2.1.1 s (by rw [hX]; exact hs)).1)
        clear hn hC hX hvr hwr htr hx9 el1 el2 el3 hwn hca hb20 HB HS
        obtain ⟨D8, hD8⟩ : ∃ x, crashD D ks = x := ⟨_, rfl⟩
        rw [hD8] at HB20 HCR
        clear hD8
        go_upto_block 6 with fail
        go_cut [19] (fun _ wx => Hid (Below w20.heap.size w20 wx))
        case first =>
          go_wp2_with fail
          go_loopw [19] (fun i wr => ∃ k : Nat, k ≤ 9 ∧ i = .int .i64 (k : Int) ∧ Hid (Below w20.heap.size w20 wr)) (fun i _ => 9 - (intOf i).toNat)
          case atStart => exact ⟨0, by decide, rfl, Lib.hid (Below.refl _ _)⟩
          case round =>
            obtain ⟨k, hk, rfl, KR⟩ := hrel
            by_cases hlt : k < 9
            · have hx0 : (0 : Int) ≤ (k : Int) := by omega
              have hx1 : (k : Int) < 9 := by omega
              have hsl : D8.secs.length = 9 := by rw [HCR.out.1, want_length]; exact HN.out.2.2.2
              obtain ⟨h1, h2⟩ := readS_still HCR.out.2.1 HCR.out.2.2 (k := k) (by rw [hsl]; exact hlt)
              have HRD := Lib.hid (dread_is (HB20.out.disk.more KR.out) (k : Int))
              rw [h1] at HRD
              have h3 := (HB20.out.disk.2.2.2.1.1 _ (List.mem_of_getElem? h2)).1
              obtain ⟨S, hS⟩ : ∃ S, readS D8 (k : Int) = S := ⟨_, rfl⟩
              rw [hS] at HRD h2 h3
              have HS := Lib.hid h3
              have HSW : Hid ((wantL C ks X n)[k]? = some S) := Lib.hid (by rw [← HCR.out.1]; exact h2)
              obtain ⟨Y, hY⟩ : ∃ Y, X[k]? = some Y := ⟨_, List.getElem?_eq_getElem (by rw [HN.out.2.2.2]; exact hlt)⟩
              have HY := Lib.hid (HXO.out Y (List.mem_of_getElem? hY))
              have HYW : Hid ((wantL C ks X 0)[k]? = some Y) := Lib.hid hY
              obtain ⟨yb, yo, rfl, hyb, hyc⟩ := (HVR.out.below KR.out).row (show (secR X)[k]? = some (Y.map byteV) by unfold secR; rw [List.getElem?_map, hY]; rfl)
              have HYC : Hid (∀ W, Below wr.heap.size wr W → ∀ j, j < 128 → W.cell? ⟨yb, yo + k * 128 + j, none⟩ = some (byteV (Y.getD j 0))) := Lib.hid (fun W hW j hj => by
                have e1 := hyc j (byteV (Y.getD j 0)) (by rw [List.getElem?_map, List.getElem?_eq_getElem (by have := HY.out; omega), List.getD_eq_getElem?_getD, List.getElem?_eq_getElem (by have := HY.out; omega)]; rfl)
                rw [Nat.add_assoc]
                exact (hW.cell (p := ⟨yb, yo + (k * 128 + j), none⟩) hyb).trans e1)
              have HLT := Lib.hid hlt
              have hzs := zero_sector
              have e00 : ((0 : Int) != 0) = false := rfl
              clear h1 h2 h3 hS hlt hk hY hyb hyc hsl
              go_wp2_with fail
              refine HRD.out.mono ?_
              rintro e w21 ⟨rfl, b21⟩
              have nz := heap_alloc_new w21 (.cells (cells noughts) 41)
              have nS := heap_alloc_new w21 (.cells (cells S) 41)
              have eS := World.setRow_alloc_new w21 (cells noughts) (cells S) 41
              have bS := below_box w21 (.cells (cells S) 41)
              obtain ⟨w22, hw22⟩ : ∃ x, w21.alloc (.cells (cells S) 41) = x := ⟨_, rfl⟩
              rw [hw22] at eS bS nS
              obtain ⟨g20, hg20⟩ : ∃ x, w21.heap.size = x := ⟨_, rfl⟩
              rw [hg20] at nz nS eS
              have K22 := Lib.hid (below_next b21 bS)
              have N20 := Lib.hid nS
              have L9 := Lib.hid (HYC.out w22 K22.out)
              have nz2 := heap_alloc_new w22 (.cells (cells noughts) 41)
              have nS2 := heap_alloc_new w22 (.cells (cells Y) 41)
              have eS2 := World.setRow_alloc_new w22 (cells noughts) (cells Y) 41
              have bS2 := below_box w22 (.cells (cells Y) 41)
              obtain ⟨w23, hw23⟩ : ∃ x, w22.alloc (.cells (cells Y) 41) = x := ⟨_, rfl⟩
              rw [hw23] at eS2 bS2 nS2
              obtain ⟨g22, hg22⟩ : ∃ x, w22.heap.size = x := ⟨_, rfl⟩
              have HG22 := Lib.hid hg22
              rw [hg22] at nz2 nS2 eS2
              have N22 : Hid (w23.heap[g22]? = some (.cells (cells Y) 41 (0, 0))) := Lib.hid nS2
              have K23 : Hid (Below w22.heap.size w22 w23) := Lib.hid bS2
              have L9' : Hid (∀ j, j < 128 → w22.cell? ⟨yb, yo + k * 128 + j, none⟩ = some (byteV (Y.getD j 0))) := Lib.hid (fun j hj => L9.out j hj)
              clear b21 bS nS hw22 nS2 bS2 hw23
              go_wp2_with (first
                | (refine wpList_store_sector rfl _ _ rfl g20 S rfl rfl HS.out _ _ nz rfl ?_; rw [eS])
                | (refine wpList_store_sector rfl _ _ rfl g22 Y rfl rfl HY.out _ _ nz2 rfl ?_; rw [eS2])
                | (refine wpList_load_sector rfl _ rfl yb (yo + k * 128) Y rfl HY.out L9'.out ?_)
                | fail)
              clear nz eS nz2 eS2 L9 L9' HYC hg20 hg22 hzs e00
              have KA := Lib.hid KR.out
              generalize wr = wz at *
              obtain ⟨XW, hXW⟩ : ∃ XW : Nat → List Nat, XW = fun q => (wantL C ks X q)[k]?.getD [] := ⟨_, rfl⟩
              have HXW : Hid (∀ q Z, (wantL C ks X q)[k]? = some Z → XW q = Z) := Lib.hid (fun q Z hZ => by rw [hXW]; show (wantL C ks X q)[k]?.getD [] = Z; rw [hZ]; rfl)
              have HWX : Hid (∀ q, (wantL C ks X q)[k]? = some (XW q)) := Lib.hid (fun q => by
                obtain ⟨Z, hZ⟩ : ∃ Z, (wantL C ks X q)[k]? = some Z := ⟨_, List.getElem?_eq_getElem (by rw [want_length, HN.out.2.2.2]; exact HLT.out)⟩
                rw [HXW.out q Z hZ]; exact hZ)
              clear hXW
              go_loopw [144] (fun i wr => ∃ q : Nat, q ≤ n ∧ i = .int .i64 (q : Int) ∧ Hid (wr.heap[g22]? = some (.cells (cells (XW q)) 41 (0, 0))) ∧ Hid ((XW q).length = 128) ∧ Hid (Below w22.heap.size w22 wr)) (fun i _ => n - (intOf i).toNat)
              case atStart => exact ⟨0, Nat.zero_le _, rfl, Lib.hid (by rw [HXW.out 0 Y HYW.out]; exact N22.out), Lib.hid (by rw [HXW.out 0 Y HYW.out]; exact HY.out), K23⟩
              case round =>
                obtain ⟨q, hq, rfl, HG, HL, KQ⟩ := hrel
                have HKK : Hid (Below w20.heap.size w20 wr) := Lib.hid (below_next (below_next KA.out K22.out) KQ.out)
                by_cases hqn : q < n
                · have hy0 : (0 : Int) ≤ (q : Int) := by omega
                  have hy1 : (q : Int) < (n : Int) := by omega
                  have hy2 : q ≤ 40 := by have := HN.out.2.2.1; omega
                  obtain ⟨⟨A, T⟩, hp⟩ : ∃ p, C[q]? = some p := ⟨_, List.getElem?_eq_getElem (by rw [HN.out.1]; exact hqn)⟩
                  obtain ⟨⟨A1, B1⟩, hp1⟩ : ∃ p, ws[q]? = some p := ⟨_, List.getElem?_eq_getElem (by rw [HN.out.2.1]; exact hqn)⟩
                  have hA : A1 = A := by
                    have e1 := congrArg (fun l => l[q]?) HWS.out
                    simp only [List.getElem?_map, hp, hp1, Option.map_some] at e1
                    exact Option.some.inj e1
                  subst hA
                  have HT := Lib.hid (HCO.out _ (List.mem_of_getElem? hp))
                  obtain ⟨wb, wo, rfl, hwb, hwc⟩ := (HWR.out.below HKK.out).row (show (pairsV ws)[q]? = some [.int .i64 (A1 : Int), .int .i64 (B1 : Int)] by unfold pairsV; rw [List.getElem?_map, hp1]; rfl)
                  have f0 : wr.cell? ⟨wb, wo + q * 2, none⟩ = some (.int .i64 (A1 : Int)) := hwc 0 _ rfl
                  have f1 : wr.cell? ⟨wb, wo + q * 2 + 1, none⟩ = some (.int .i64 (B1 : Int)) := by have := hwc 1 _ rfl; rwa [← Nat.add_assoc] at this
                  obtain ⟨tb, tof, rfl, htb, htc⟩ := (HTR.out.below HKK.out).row (show (secR (C.map (·.2)))[q]? = some (T.map byteV) by unfold secR; rw [List.getElem?_map, List.getElem?_map, hp]; rfl)
                  have HTC : Hid (∀ W, Below wr.heap.size wr W → ∀ j, j < 128 → W.cell? ⟨tb, tof + q * 128 + j, none⟩ = some (byteV (T.getD j 0))) := Lib.hid (fun W hW j hj => by
                    have hT := HT.out
                    have e1 := htc j (byteV (T.getD j 0)) (by rw [List.getElem?_map, List.getElem?_eq_getElem (by simp only at hT; omega), List.getD_eq_getElem?_getD, List.getElem?_eq_getElem (by simp only at hT; omega)]; rfl)
                    rw [Nat.add_assoc]
                    exact (hW.cell (p := ⟨tb, tof + (q * 128 + j), none⟩) htb).trans e1)
                  have HAT := Lib.hid (want_at (i := k) hp (HWX.out q))
                  have HQN := Lib.hid hqn
                  obtain ⟨wx, hwx⟩ : ∃ x, wr.alloc (.cells #[.int .i64 (A1 : Int), .int .i64 (B1 : Int)] 50) = x := ⟨_, rfl⟩
                  have bx := below_box wr (.cells #[.int .i64 (A1 : Int), .int .i64 (B1 : Int)] 50)
                  have nx := heap_alloc_new wr (.cells #[.int .i64 (A1 : Int), .int .i64 (B1 : Int)] 50)
                  rw [hwx] at bx nx
                  obtain ⟨gx, hgx⟩ : ∃ x, wr.heap.size = x := ⟨_, rfl⟩
                  rw [hgx] at nx
                  have k0 : wx.cell? ⟨gx, 0, none⟩ = some (.int .i64 (A1 : Int)) := cell_of_row nx 0
                  have k1 : wx.cell? ⟨gx, 1, none⟩ = some (.int .i64 (B1 : Int)) := cell_of_row nx 1
                  have KX := Lib.hid (below_next KQ.out bx)
                  have HGX := Lib.hid ((bx.block g22 (Array.getElem?_eq_some_iff.1 HG.out).1).trans HG.out)
                  have HTX := Lib.hid (HTC.out wx bx)
                  have HKX : Hid (ReadsB wx ka kn ks) := Lib.hid (readsB_below HKR.out (below_next HKK.out bx))
                  clear hwb hwc htb htc hp hp1 bx nx hqn hq
                  by_cases hAk : A1 = k
                  · subst hAk
                    have ee : ((A1 : Int) == (A1 : Int)) = true := by simp
                    by_cases hkq : q < kn
                    · have hl : (q : Int) < (kn : Int) := by omega
                      obtain ⟨hl1, h0 | ⟨kb, ko, rfl, hkb, hkc⟩⟩ := HKX.out
                      · exact absurd hkq (by rw [← hl1, h0]; simp)
                      have kc0 := hkc q hkq
                      obtain ⟨bk, hbk⟩ : ∃ bk, ks.getD q false = bk := ⟨_, rfl⟩
                      have hlk : q < ks.length := by omega
                      rw [hbk] at kc0
                      cases bk with
                      | true =>
                        have HNX := Lib.hid (HXW.out (q + 1) T (by rw [HAT.out, if_pos ⟨rfl, hlk, hbk⟩]))
                        clear hkc hbk hlk hl1
                        have NY := Lib.hid (setRow_heap wx g22 (cells (XW q)) (cells T) 41 (0, 0) HGX.out)
                        have KY := Lib.hid (KX.out.grown (grown_row wx g22 (cells T)) KX.out.size (fun i hi => by obtain rfl := Option.some.inj hi; exact Nat.le_of_eq HG22.out))
                        go_wp2_with (first
                          | (refine wpList_load_sector rfl _ rfl tb (tof + q * 128) T rfl HT.out HTX.out ?_)
                          | (refine wpList_store_sector rfl _ _ rfl g22 T rfl rfl HT.out _ _ HGX.out (by rw [cells_size, HL.out]) ?_)
                          | fail)
                        have h1 := HQN.out
                        go_roundw
                        case rel => exact ⟨q + 1, HQN.out, by go_num, Lib.hid (by rw [HNX.out]; exact NY.out), Lib.hid (by rw [HNX.out]; exact HT.out), KY⟩
                        case measure => simp [intOf]; omega
                      | false =>
                        have HNX : Hid (XW (q + 1) = XW q) := Lib.hid (HXW.out (q + 1) _ (by rw [HAT.out, if_neg (fun h => by rw [hbk] at h; cases h.2.2)]))
                        clear hkc hbk hlk hl1
                        go_wp2
                        have h1 := HQN.out
                        go_roundw
                        case rel => exact ⟨q + 1, HQN.out, by go_num, Lib.hid (by rw [HNX.out]; exact HGX.out), Lib.hid (by rw [HNX.out]; exact HL.out), KX⟩
                        case measure => simp [intOf]; omega
                    · have hl : ¬ (q : Int) < (kn : Int) := by omega
                      have HNX : Hid (XW (q + 1) = XW q) := Lib.hid (HXW.out (q + 1) _ (by rw [HAT.out, if_neg (fun h => by have := h.2.1; have := HKX.out.1; omega)]))
                      clear hkq
                      go_wp2
                      have h1 := HQN.out
                      go_roundw
                      case rel => exact ⟨q + 1, HQN.out, by go_num, Lib.hid (by rw [HNX.out]; exact HGX.out), Lib.hid (by rw [HNX.out]; exact HL.out), KX⟩
                      case measure => simp [intOf]; omega
                  · have ee : ((A1 : Int) == (k : Int)) = false := by simp; omega
                    have HNX : Hid (XW (q + 1) = XW q) := Lib.hid (HXW.out (q + 1) _ (by rw [HAT.out, if_neg (fun h => hAk h.1)]))
                    clear hAk
                    go_wp2
                    have h1 := HQN.out
                    go_roundw
                    case rel => exact ⟨q + 1, HQN.out, by go_num, Lib.hid (by rw [HNX.out]; exact HGX.out), Lib.hid (by rw [HNX.out]; exact HL.out), KX⟩
                    case measure => simp [intOf]; omega
                · obtain rfl : q = n := by omega
                  have hy1 : ¬ (q : Int) < (q : Int) := by omega
                  have e5 : XW q = S := HXW.out q S HSW.out
                  rw [e5] at HG
                  have LG := Lib.hid (block_cells HS.out HG.out)
                  have LS := Lib.hid (block_cells HS.out ((KQ.out.block g20 (Array.getElem?_eq_some_iff.1 N20.out).1).trans N20.out))
                  have hneq := run_neq_sector S S HS.out HS.out
                  rw [decide_eq_true rfl, Bool.not_true] at hneq
                  have h1 := HLT.out
                  clear hqn hq e5
                  go_wp2_with (first
                    | (refine wpList_load_sector rfl _ rfl g20 0 S rfl HS.out LS.out ?_)
                    | (refine wpList_load_sector rfl _ rfl g22 0 S rfl HS.out LG.out ?_)
                    | fail)
                  go_roundw
                  case rel => exact ⟨k + 1, HLT.out, by go_num, HKK⟩
                  case measure => simp [intOf]; omega
            · obtain rfl : k = 9 := by omega
              have hx1 : ¬ ((9 : Nat) : Int) < 9 := by omega
              clear hlt hk
              go_wp2_with fail
              go_meet
              exact KR
        case rest =>
          have HBE := Lib.hid (HB20.out.more hcut.out)
          have HDD := Lib.hid (ddead_is HBE.out.disk)
          have HQQ := Lib.hid (dqueue_is HBE.out.disk)
          rw [HCR.out.2.2] at HDD
          rw [HCR.out.2.1] at HQQ
          have e0 : (([] : List (Nat × List Nat)).length : Int) = 0 := rfl
          go_wp2_with fail
          refine HDD.out.mono ?_
          rintro e w30 ⟨rfl, rfl⟩
          go_wp2_with fail
          refine HQQ.out.mono ?_
          rintro e w31 ⟨gq, rfl, _, _, b31⟩
          have HEN := Lib.hid (below_next HBE.out.below b31)
          go_wp2
          go_ret
          exact ⟨rfl, HEN.out⟩
end Go.Proofs.Ytbpklbicbeckdaa
