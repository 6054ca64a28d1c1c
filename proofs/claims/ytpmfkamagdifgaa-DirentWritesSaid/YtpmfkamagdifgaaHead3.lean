/- A region's header, written as the document says. -/
import Derived.Test.YtpmfkamagdifgaaHead2
import Derived.Test.YtpmfkamagdifgaaRMake
import Derived.Test.YtpmfkamagdifgaaStep
import Derived.Test.YtpmfkamagdifgaaTurn
import Derived.Deep.RegionHeld3
namespace Go.Proofs.Ytpmfkamagdifgaa
open Go.RowKit Go.Sort
set_option linter.unusedVariables false
set_option linter.unusedSimpArgs false
set_option maxRecDepth 100000

theorem head_list {l : List FldD} (h : IsHead l) : ∃ z0 z1 z2 z3 z4 z5 : Int, l = [⟨.u64, 8, z0⟩, ⟨.u64, 8, z1⟩, ⟨.i64, 2, z2⟩, ⟨.i64, 2, z3⟩, ⟨.i64, 2, z4⟩, ⟨.u32, 4, z5⟩] ∧ (0 ≤ z0 ∧ z0 < 18446744073709551616) ∧ (0 ≤ z1 ∧ z1 < 18446744073709551616) ∧ I64 z2 ∧ I64 z3 ∧ I64 z4 ∧ (0 ≤ z5 ∧ z5 < 4294967296) := by
  obtain ⟨hl, h⟩ := h
  match l, hl with
  | [a, b, c, d, e, f], _ =>
    obtain ⟨z0, e0, k0⟩ := h 0 (by decide)
    obtain ⟨z1, e1, k1⟩ := h 1 (by decide)
    obtain ⟨z2, e2, k2⟩ := h 2 (by decide)
    obtain ⟨z3, e3, k3⟩ := h 3 (by decide)
    obtain ⟨z4, e4, k4⟩ := h 4 (by decide)
    obtain ⟨z5, e5, k5⟩ := h 5 (by decide)
    have f0 : a = ⟨.u64, 8, z0⟩ := Option.some.inj e0
    have f1 : b = ⟨.u64, 8, z1⟩ := Option.some.inj e1
    have f2 : c = ⟨.i64, 2, z2⟩ := Option.some.inj e2
    have f3 : d = ⟨.i64, 2, z3⟩ := Option.some.inj e3
    have f4 : e = ⟨.i64, 2, z4⟩ := Option.some.inj e4
    have f5 : f = ⟨.u32, 4, z5⟩ := Option.some.inj e5
    subst f0 f1 f2 f3 f4 f5
    exact ⟨z0, z1, z2, z3, z4, z5, rfl, k0, k1, k2, k3, k4, k5⟩
theorem stS_room2 : ∀ (l : List FldD) (b : List Nat), (∀ x ∈ l, u64of x.z < 256 ^ x.width) → stS (.wr b false) l = .wr (b ++ l.flatMap fun x => low (u64of x.z) x.width) false
  | [], b, _ => by simp [stS]
  | x :: l, b, h => by
    show stS (PS.next (.wr b false) x.width (u64of x.z)) l = _
    have h1 := h x (List.mem_cons_self ..)
    have e : PS.next (.wr b false) x.width (u64of x.z) = .wr (b ++ low (u64of x.z) x.width) false := if_pos h1
    rw [e, stS_room2 l _ fun y hy => h y (List.mem_cons_of_mem _ hy)]
    simp
theorem stS_bad2 : ∀ (l : List FldD) (b : List Nat) (f : Bool), (f = true ∨ ∃ x ∈ l, ¬ u64of x.z < 256 ^ x.width) → ∃ b', stS (.wr b f) l = .wr b' true
  | [], b, f, h => by
    rcases h with rfl | ⟨x, hx, _⟩
    · exact ⟨b, rfl⟩
    · simp at hx
  | x :: l, b, f, h => by
    show ∃ b', stS (PS.next (.wr b f) x.width (u64of x.z)) l = _
    by_cases hx : u64of x.z < 256 ^ x.width
    · have e : PS.next (.wr b f) x.width (u64of x.z) = .wr (b ++ low (u64of x.z) x.width) f := if_pos hx
      rw [e]
      refine stS_bad2 l _ f ?_
      rcases h with h | ⟨y, hy, hn⟩
      · exact .inl h
      · rcases List.mem_cons.1 hy with rfl | hy
        · exact absurd hx hn
        · exact .inr ⟨y, hy, hn⟩
    · have e : PS.next (.wr b f) x.width (u64of x.z) = .wr (b ++ List.replicate x.width 0) true := if_neg hx
      rw [e]
      exact stS_bad2 l _ true (.inl rfl)
theorem writeH_bad {l : List FldD} (h : ∃ x ∈ l, ¬ u64of x.z < 256 ^ x.width) : writeH l = (noughts, 1) := by
  obtain ⟨b', e⟩ := stS_bad2 l [] false (.inr h)
  have : wrF l = true := by unfold wrF; rw [e]
  exact if_pos (.inr this)
theorem writeH_good {l : List FldD} (h : ∀ x ∈ l, u64of x.z < 256 ^ x.width) : writeH l = (sealL 6 (l.flatMap fun x => low (u64of x.z) x.width), 0) := by
  have e := stS_room2 l [] h
  have h1 : wrF l = false := by unfold wrF; rw [e]
  have h2 : wrB l = l.flatMap fun x => low (u64of x.z) x.width := by unfold wrB; rw [e]; rfl
  unfold writeH
  rw [if_neg (by rw [h1]; simp [mayH]), h2]
/-- The document's word on a header: it may be. -/
noncomputable def headOk (l : List FldD) : Bool := decide ((writeH l).2 = 0)

set_option maxHeartbeats 3200000 in
theorem rwriteHead_is {l : List FldD} (hl : IsHead l) (w : World) :
    Calls Try.prog 30 #[.agg (cellsF l)] w fun e w' => e = .returned (.tuple #[.agg (cells (writeH l).1), .bool (headOk l)]) ∧ Below w.heap.size w w' := by
  have hz := zero_full
  have hbld := build_full
  have b1 := below_box w (.cells (cellsF l) 69)
  have n1 := heap_alloc_new w (.cells (cellsF l) 69)
  obtain ⟨w1, hw1⟩ : ∃ w1, w.alloc (.cells (cellsF l) 69) = w1 := ⟨_, rfl⟩
  have hs1 : w1.heap.size = w.heap.size + 1 := by rw [← hw1]; simp
  rw [hw1] at b1 n1
  have b2 := below_box w1 (.cells (cells noughts) 30)
  have n2 := heap_alloc_new w1 (.cells (cells noughts) 30)
  have n1' := (b2.block w.heap.size (by omega)).trans n1
  have HB := Lib.hid (below_next b1 b2)
  rw [hs1] at n2
  obtain ⟨W, hw2⟩ : ∃ W, w1.alloc (.cells (cells noughts) 30) = W := ⟨_, rfl⟩
  rw [hw2] at n2 n1' HB
  have hs2 : W.heap.size = w.heap.size + 2 := by rw [← hw2]; simp [hs1]
  clear b1 n1 b2
  obtain ⟨z0, z1, z2, z3, z4, z5, hle, k0, k1, k2, k3, k4, k5⟩ := head_list hl
  obtain ⟨a0, rfl⟩ := Int.eq_ofNat_of_zero_le k0.1
  obtain ⟨a1, rfl⟩ := Int.eq_ofNat_of_zero_le k1.1
  obtain ⟨a5, rfl⟩ := Int.eq_ofNat_of_zero_le k5.1
  have box : ∀ w', Below W.heap.size W w' → w'.cell? ⟨w.heap.size, 0, none⟩ = some (.int .u64 a0) ∧ w'.cell? ⟨w.heap.size, 1, none⟩ = some (.int .u64 a1) ∧ w'.cell? ⟨w.heap.size, 2, none⟩ = some (.int .i64 z2) ∧ w'.cell? ⟨w.heap.size, 3, none⟩ = some (.int .i64 z3) ∧ w'.cell? ⟨w.heap.size, 4, none⟩ = some (.int .i64 z4) ∧ w'.cell? ⟨w.heap.size, 5, none⟩ = some (.int .u32 a5) := by
    intro w' hb
    have n := (hb.block w.heap.size (by omega)).trans n1'
    rw [hle] at n
    exact ⟨cell_of_row n 0, cell_of_row n 1, cell_of_row n 2, cell_of_row n 3, cell_of_row n 4, cell_of_row n 5⟩
  obtain ⟨c0, c1, c2, c3, c4, c5⟩ := box W (Below.refl _ _)
  have BOX := Lib.hid box
  have HL := Lib.hid hle
  have hsW : w.heap.size + 1 < W.heap.size := by omega
  obtain ⟨k01, k02⟩ := k0
  obtain ⟨k11, k12⟩ := k1
  obtain ⟨k51, k52⟩ := k5
  unfold I64 at k2 k3 k4
  clear box hle n1'
  by_cases hbad : ¬ (0 ≤ z2 ∧ z2 ≤ 65535) ∨ ¬ (0 ≤ z3 ∧ z3 ≤ 65535) ∨ ¬ (0 ≤ z4 ∧ z4 ≤ 65535)
  · have HF : Hid (writeH l = (noughts, 1)) := by
      refine writeH_bad ?_
      rw [HL.out]
      rcases hbad with h | h | h
      · exact ⟨⟨.i64, 2, z2⟩, by simp, by unfold u64of; dsimp only; omega⟩
      · exact ⟨⟨.i64, 2, z3⟩, by simp, by unfold u64of; dsimp only; omega⟩
      · exact ⟨⟨.i64, 2, z4⟩, by simp, by unfold u64of; dsimp only; omega⟩
    have HDN : Hid (headOk l = false) := by show headOk l = false; unfold headOk; rw [HF.out]; decide
    have hd9 := setRow_heap W (w.heap.size + 1) _ (cells noughts) _ _ n2
    have hb9 := below_setRow (g := w.heap.size + 1) HB.out (by omega) (cells noughts)
    clear hl
    by_cases h2a : z2 < 0
    · clear hbad
      go_enter Try.func30, Try.ntmps30
      go_wp2_with (refine wpList_store_full rfl _ _ rfl (w.heap.size + 1) noughts rfl rfl rfl _ _ n2 rfl ?_)
      refine bodyPost_ret (results_full_tmp rfl _ _ (w.heap.size + 1) noughts _ _ rfl hd9 rfl) rfl ?_
      exact ⟨by rw [HF.out, HDN.out]; rfl, hb9⟩
    · skip
      by_cases h2b : z2 > 65535
      · clear hbad
        go_enter Try.func30, Try.ntmps30
        go_wp2_with (refine wpList_store_full rfl _ _ rfl (w.heap.size + 1) noughts rfl rfl rfl _ _ n2 rfl ?_)
        refine bodyPost_ret (results_full_tmp rfl _ _ (w.heap.size + 1) noughts _ _ rfl hd9 rfl) rfl ?_
        exact ⟨by rw [HF.out, HDN.out]; rfl, hb9⟩
      · skip
        by_cases h3a : z3 < 0
        · clear hbad
          go_enter Try.func30, Try.ntmps30
          go_wp2_with (refine wpList_store_full rfl _ _ rfl (w.heap.size + 1) noughts rfl rfl rfl _ _ n2 rfl ?_)
          refine bodyPost_ret (results_full_tmp rfl _ _ (w.heap.size + 1) noughts _ _ rfl hd9 rfl) rfl ?_
          exact ⟨by rw [HF.out, HDN.out]; rfl, hb9⟩
        · skip
          by_cases h3b : z3 > 65535
          · clear hbad
            go_enter Try.func30, Try.ntmps30
            go_wp2_with (refine wpList_store_full rfl _ _ rfl (w.heap.size + 1) noughts rfl rfl rfl _ _ n2 rfl ?_)
            refine bodyPost_ret (results_full_tmp rfl _ _ (w.heap.size + 1) noughts _ _ rfl hd9 rfl) rfl ?_
            exact ⟨by rw [HF.out, HDN.out]; rfl, hb9⟩
          · skip
            by_cases h4a : z4 < 0
            · clear hbad
              go_enter Try.func30, Try.ntmps30
              go_wp2_with (refine wpList_store_full rfl _ _ rfl (w.heap.size + 1) noughts rfl rfl rfl _ _ n2 rfl ?_)
              refine bodyPost_ret (results_full_tmp rfl _ _ (w.heap.size + 1) noughts _ _ rfl hd9 rfl) rfl ?_
              exact ⟨by rw [HF.out, HDN.out]; rfl, hb9⟩
            · skip
              by_cases h4b : z4 > 65535
              · clear hbad
                go_enter Try.func30, Try.ntmps30
                go_wp2_with (refine wpList_store_full rfl _ _ rfl (w.heap.size + 1) noughts rfl rfl rfl _ _ n2 rfl ?_)
                refine bodyPost_ret (results_full_tmp rfl _ _ (w.heap.size + 1) noughts _ _ rfl hd9 rfl) rfl ?_
                exact ⟨by rw [HF.out, HDN.out]; rfl, hb9⟩
              · exfalso; omega
  · have hg : (0 ≤ z2 ∧ z2 ≤ 65535) ∧ (0 ≤ z3 ∧ z3 ≤ 65535) ∧ (0 ≤ z4 ∧ z4 ≤ 65535) := by omega
    obtain ⟨⟨g21, g22⟩, ⟨g31, g32⟩, ⟨g41, g42⟩⟩ := hg
    have h2a : ¬ z2 < 0 := by omega
    have h2b : ¬ z2 > 65535 := by omega
    have h3a : ¬ z3 < 0 := by omega
    have h3b : ¬ z3 > 65535 := by omega
    have h4a : ¬ z4 < 0 := by omega
    have h4b : ¬ z4 > 65535 := by omega
    have G := Lib.hid (And.intro g21 (And.intro g22 (And.intro g31 (And.intro g32 (And.intro g41 g42)))))
    clear hbad g21 g22 g31 g32 g41 g42
    go_enter Try.func30, Try.ntmps30
    go_wp2_with fail
    obtain ⟨g21, g22, g31, g32, g41, g42⟩ := G.out
    clear h2a h2b h3a h3b h4a h4b G
    obtain ⟨a2, rfl⟩ := Int.eq_ofNat_of_zero_le g21
    obtain ⟨a3, rfl⟩ := Int.eq_ofNat_of_zero_le g31
    obtain ⟨a4, rfl⟩ := Int.eq_ofNat_of_zero_le g41
    have HF : Hid (writeH l = (sealL 6 (low a0 8 ++ low a1 8 ++ low a2 2 ++ low a3 2 ++ low a4 2 ++ low a5 4), 0)) := by
      have h := writeH_good (l := l) (by
        rw [HL.out]
        intro x hx
        simp only [List.mem_cons, List.not_mem_nil, or_false] at hx
        rcases hx with rfl | rfl | rfl | rfl | rfl | rfl <;> (unfold u64of; dsimp only; omega))
      rw [HL.out] at h ⊢
      show _ = _
      refine h.trans ?_
      have u0 : u64of (a0 : Int) = a0 := u64of_nat (by omega)
      have u1 : u64of (a1 : Int) = a1 := u64of_nat (by omega)
      have u2 : u64of (a2 : Int) = a2 := u64of_nat (by omega)
      have u3 : u64of (a3 : Int) = a3 := u64of_nat (by omega)
      have u4 : u64of (a4 : Int) = a4 := u64of_nat (by omega)
      have u5 : u64of (a5 : Int) = a5 := u64of_nat (by omega)
      simp [u0, u1, u2, u3, u4, u5]
    have HDN : Hid (headOk l = true) := by show headOk l = true; unfold headOk; rw [HF.out]; exact decide_eq_true rfl
    have q0 : (low a0 8).length = 8 := low_length _ _
    have q1 : (low a1 8).length = 8 := low_length _ _
    clear hl
    have hk0 : (a0 : Int) % 18446744073709551616 = a0 := by omega
    have hk1 : (a1 : Int) % 18446744073709551616 = a1 := by omega
    clear hw1 hw2 c0 c1
    have c0 := (BOX.out W (Below.refl _ _)).1
    have c1 := (BOX.out W (Below.refl _ _)).2.1
    have H0 := (Below.refl W.heap.size W).drew
    go_region_held3 (fun w' => w'.cell? ⟨w.heap.size, 0, none⟩ = some (.int .u64 a0) ∧ w'.cell? ⟨w.heap.size, 1, none⟩ = some (.int .u64 a1))
      (first | exact ⟨(BOX.out _ H0).1, (BOX.out _ H0).2.1⟩ | exact ⟨(BOX.out _ k5).1, (BOX.out _ k5).2.1⟩ | exact ⟨(BOX.out _ k6).1, (BOX.out _ k6).2.1⟩ | exact ⟨(BOX.out _ k7).1, (BOX.out _ k7).2.1⟩)
      ((first
        | (go_at_call_of 104 (Value.int IntKind.u64 (a0 : Int)); refine (low_any a0 8 _ (by decide) (by omega)).mono ?_; rintro e w5 ⟨v5, rfl, o5, b5⟩; have k5 := below_next H0 b5)
        | (go_at_call_of 104 (Value.int IntKind.u64 (a1 : Int)); refine (low_any a1 8 _ (by decide) (by omega)).mono ?_; rintro e w6 ⟨v6, rfl, o6, b6⟩; have k6 := below_next k5 b6; have o56 : Owns W.heap.size w6 v5 (low a0 8) := o5.below b6; obtain ⟨a6, c6, rfl, hrd6, _, _⟩ := o6.reads; rw [low_length] at hrd6 ⊢; obtain ⟨g6, f6, rfl⟩ := hrd6.some_of (by decide))
        | (refine step_append_bytes (by rfl) _ _ (by rfl) W.heap.size v5 (low a0 8) (by rfl) o56 g6 f6 8 c6 (by rfl) (low a1 8) hrd6 (by decide) (by rw [low_length]; decide) k6.size ?_; intro v7 w7 o7 g7; have k7 : Below W.heap.size W w7 := k6.grown g7 k6.size (fun j hj => o56.lt j hj))))
    rename_i hHeld
    clear hHeld o5 b5 k5 b6 k6 o56 o6 hrd6 g7 c0 c1 H0 hk0 hk1
    clear c2 c3 c4 c5
    have c2 := (BOX.out _ k7).2.2.1
    go_wp2_with fail
    refine (low_any a2 2 w7 (by decide) (by omega)).mono ?_
    rintro e x0 ⟨va0, rfl, oa0, ba0⟩
    have ka0 := k7.trans (ba0.mono k7.size)
    have ob0 := o7.below ba0
    obtain ⟨aa0, ca0, rfl, hra0, _, _⟩ := oa0.reads
    rw [low_length] at hra0 ⊢
    clear ba0 oa0 o7 c2
    go_wp2_with (at_builtin; refine wpList_append_bytes rfl _ _ rfl W.heap.size _ (low a0 8 ++ low a1 8) rfl ob0 _ _ _ rfl (low a2 2) hra0 (by simp [low_length]) ka0.size ?_; intro vb0 y0 oc0 gb0; have kb0 := ka0.grown gb0 ka0.size (fun j hj => ob0.lt j hj); have c3 := (BOX.out _ kb0).2.2.2.1; clear gb0 hra0 ob0)
    go_wp2_with fail
    refine (low_any a3 2 y0 (by decide) (by omega)).mono ?_
    rintro e x1 ⟨va1, rfl, oa1, ba1⟩
    have ka1 := kb0.trans (ba1.mono kb0.size)
    have ob1 := oc0.below ba1
    obtain ⟨aa1, ca1, rfl, hra1, _, _⟩ := oa1.reads
    rw [low_length] at hra1 ⊢
    clear ba1 oa1 oc0 c3
    go_wp2_with (at_builtin; refine wpList_append_bytes rfl _ _ rfl W.heap.size _ (low a0 8 ++ low a1 8 ++ low a2 2) rfl ob1 _ _ _ rfl (low a3 2) hra1 (by simp [low_length]) ka1.size ?_; intro vb1 y1 oc1 gb1; have kb1 := ka1.grown gb1 ka1.size (fun j hj => ob1.lt j hj); have c4 := (BOX.out _ kb1).2.2.2.2.1; clear gb1 hra1 ob1)
    go_wp2_with fail
    refine (low_any a4 2 y1 (by decide) (by omega)).mono ?_
    rintro e x2 ⟨va2, rfl, oa2, ba2⟩
    have ka2 := kb1.trans (ba2.mono kb1.size)
    have ob2 := oc1.below ba2
    obtain ⟨aa2, ca2, rfl, hra2, _, _⟩ := oa2.reads
    rw [low_length] at hra2 ⊢
    clear ba2 oa2 oc1 c4
    go_wp2_with (at_builtin; refine wpList_append_bytes rfl _ _ rfl W.heap.size _ (low a0 8 ++ low a1 8 ++ low a2 2 ++ low a3 2) rfl ob2 _ _ _ rfl (low a4 2) hra2 (by simp [low_length]) ka2.size ?_; intro vb2 y2 oc2 gb2; have kb2 := ka2.grown gb2 ka2.size (fun j hj => ob2.lt j hj); have c5 := (BOX.out _ kb2).2.2.2.2.2; clear gb2 hra2 ob2)
    go_wp2_with fail
    refine (low_any a5 4 y2 (by decide) (by omega)).mono ?_
    rintro e x3 ⟨va3, rfl, oa3, ba3⟩
    have ka3 := kb2.trans (ba3.mono kb2.size)
    have ob3 := oc2.below ba3
    obtain ⟨aa3, ca3, rfl, hra3, _, _⟩ := oa3.reads
    rw [low_length] at hra3 ⊢
    clear ba3 oa3 oc2 c5
    have hlen : (low a0 8 ++ low a1 8 ++ low a2 2 ++ low a3 2 ++ low a4 2 ++ low a5 4).length = 26 := by simp [low_length]
    go_wp2_with (at_builtin; refine wpList_append_bytes rfl _ _ rfl W.heap.size _ (low a0 8 ++ low a1 8 ++ low a2 2 ++ low a3 2 ++ low a4 2) rfl ob3 _ _ _ rfl (low a5 4) hra3 (by simp [low_length]) ka3.size ?_; intro vb3 y3 oc3 gb3; have kb3 := ka3.grown gb3 ka3.size (fun j hj => ob3.lt j hj); obtain ⟨ad, cd, rfl, hrd, _, _⟩ := oc3.reads; rw [hlen] at hrd ⊢; clear gb3 hra3 ob3)
    refine (rmake_ok 6 (low a0 8 ++ low a1 8 ++ low a2 2 ++ low a3 2 ++ low a4 2 ++ low a5 4) _ _ _ y3 hrd (by decide) (by decide) (by decide)).mono ?_
    rintro e wf ⟨rfl, bf⟩
    have hsl := sealL_length (kind := 6) (body := low a0 8 ++ low a1 8 ++ low a2 2 ++ low a3 2 ++ low a4 2 ++ low a5 4) (by rw [hlen]; decide)
    have nf := (bf.block (w.heap.size + 1) (by have := kb3.size; omega)).trans ((kb3.block (w.heap.size + 1) (by omega)).trans n2)
    have HBF : Hid (Below w.heap.size w wf) := (HB.out.trans (kb3.mono HB.out.size)).trans (bf.mono (Nat.le_trans HB.out.size kb3.size))
    obtain ⟨sl, hsle⟩ : ∃ x, sealL 6 (low a0 8 ++ low a1 8 ++ low a2 2 ++ low a3 2 ++ low a4 2 ++ low a5 4) = x := ⟨_, rfl⟩
    rw [hsle] at hsl HF ⊢
    have hd9 := setRow_heap wf (w.heap.size + 1) _ (cells sl) _ _ nf
    have hb9 := below_setRow (g := w.heap.size + 1) HBF.out (by omega) (cells sl)
    clear bf hsle
    go_wp2_with (refine wpList_store_full rfl _ _ rfl (w.heap.size + 1) sl rfl rfl hsl _ _ nf rfl ?_)
    refine bodyPost_ret (results_full_tmp rfl _ _ (w.heap.size + 1) sl _ _ rfl hd9 hsl) rfl ?_
    exact ⟨by rw [HF.out, HDN.out]; rfl, hb9⟩
end Go.Proofs.Ytpmfkamagdifgaa
