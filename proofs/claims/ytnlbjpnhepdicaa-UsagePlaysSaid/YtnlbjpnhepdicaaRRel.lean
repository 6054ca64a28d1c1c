/- The document's usage table: Release. -/
import Derived.Test.YtnlbjpnhepdicaaRSet
import Derived.Test.YtnlbjpnhepdicaaTab6
namespace Go.Proofs.Ytnlbjpnhepdicaa
open Go.RowKit Go.Sort
set_option linter.unusedVariables false
set_option linter.unusedSimpArgs false
set_option maxRecDepth 100000

theorem ownsV_cells {B : Nat} {w : World} {e : TypeId} {g n c : Nat} {l : List Value} (h : OwnsV B w e (.slice (some ⟨g, 0, none⟩) n c) l) : ∃ C fr, w.heap[g]? = some (.cells C e fr) := by
  rcases h.2 with ⟨h1, _⟩ | ⟨g', cap, cur, h1, hb, hg, hc, hm, hsz, ht⟩
  · cases h1
  · obtain ⟨e1, _, _⟩ := Value.slice.inj h1
    obtain rfl : g = g' := by simpa using e1
    exact ⟨_, _, hg⟩
theorem apartVR {B B' : Nat} {w : World} {e e' : TypeId} {k : Nat} {v : Value} {l : List Value} {g n c : Nat} {l' : List (List Value)} (h : OwnsV B w e v l) (h' : OwnsR' B' w e' k (.slice (some ⟨g, 0, none⟩) n c) l') (hne : e' ≠ e) : v.ownBlock ≠ some g := by
  intro hv
  rcases h.2 with ⟨rfl, _⟩ | ⟨g', cap, cur, rfl, hb, hg, hc, hm, hsz, ht⟩
  · cases hv
  · obtain rfl : g' = g := by simpa [Value.ownBlock] using hv
    exact h'.apart hg hne rfl
def RRelPost (B : Nat) (w : World) (room : Int) (us : List UseD) (L : List Nat) (e : Ending) (w' : World) : Prop :=
  ∃ g c a cL, e = .returned (.tuple #[.agg #[.int .i64 room, .slice (some ⟨g, 0, none⟩) us.length c], .slice a L.length cL]) ∧ OwnsR' B w' 46 3 (.slice (some ⟨g, 0, none⟩) us.length c) (usesV us) ∧ ReadsV w' a L.length (natV L) ∧ Below w.heap.size w w'
set_option maxHeartbeats 4000000 in
theorem rrelease_is {B : Nat} {w : World} {room : Int} {gd cd : Nat} {us : List UseD} (h : OwnsR' B w 46 3 (.slice (some ⟨gd, 0, none⟩) us.length cd) (usesV us)) (hB : B ≤ w.heap.size) (hlen : us.length ≤ 200) :
    Calls Try.prog 87 #[.agg #[.int .i64 room, .slice (some ⟨gd, 0, none⟩) us.length cd]] w (RRelPost B w room (wipe us (idleL us)) (idleL us)) := by
  obtain ⟨n, hn⟩ : ∃ n, us.length = n := ⟨_, rfl⟩
  have HPOST : Hid (RRelPost B w room (wipe us (idleL us)) (idleL us) = fun e w' => ∃ g c a cL, e = .returned (.tuple #[.agg #[.int .i64 room, .slice (some ⟨g, 0, none⟩) n c], .slice a (idleL us).length cL]) ∧ OwnsR' B w' 46 3 (.slice (some ⟨g, 0, none⟩) n c) (usesV (wipe us (idleL us))) ∧ ReadsV w' a (idleL us).length (natV (idleL us)) ∧ Below w.heap.size w w') := by
    show _ = _; unfold RRelPost; rw [wipe_length, hn]
  rw [HPOST.out]
  obtain ⟨M, hM⟩ : ∃ M, idleL us = M := ⟨_, rfl⟩
  obtain ⟨mm, hmm⟩ : ∃ mm, M.length = mm := ⟨_, rfl⟩
  have HM := Lib.hid hM
  have HMM := Lib.hid hmm
  rw [hM, hmm]
  clear hM hmm
  rw [hn] at h hlen ⊢
  obtain ⟨q1, q2, q3, q4⟩ := startW_facts w room (.slice (some ⟨gd, 0, none⟩) n cd)
  have HLT := Lib.hid ((h.lt gd rfl).2)
  have HQ := Lib.hid (h.below q3)
  have HBW := Lib.hid hB
  have Q1 := Lib.hid q1
  have Q2 := Lib.hid q2
  have Q3 := Lib.hid q3
  have Q4 := Lib.hid q4
  have HN := Lib.hid hn
  clear h hB hn HPOST q1 q2 q3 q4
  go_enter Try.func87, Try.ntmps87
  go_wp2_with fail
  go_loopw [4, 5] (fun x4 x5 wr => ∃ k gk ck : Nat, k ≤ n ∧ x5 = .int .i64 k ∧ Hid (OwnsV (w.heap.size + 2) wr 3 x4 (natV (placesL idleU us k))) ∧ Hid (BoxP wr w.heap.size room (.slice (some ⟨gk, 0, none⟩) n ck)) ∧ Hid (BoxP wr (w.heap.size + 1) 0 (.slice none 0 0)) ∧ Hid (OwnsR' B wr 46 3 (.slice (some ⟨gk, 0, none⟩) n ck) (usesV (wipe us (placesL idleU us k)))) ∧ Hid (Below w.heap.size w wr) ∧ Hid (w.heap.size + 2 ≤ wr.heap.size) ∧ Hid (gk ≠ w.heap.size ∧ gk ≠ w.heap.size + 1)) (fun _ i _ => n - (intOf i).toNat)
  case atStart => exact ⟨0, gd, cd, Nat.zero_le _, rfl, OwnsV.nil _ _ _, Q1, Q2, HQ, Q3, Lib.hid (show w.heap.size + 2 ≤ (startW w room (.slice (some ⟨gd, 0, none⟩) n cd)).heap.size from Nat.le_of_eq Q4.out.symm), Lib.hid (by have := HLT.out; omega)⟩
  case round =>
    obtain ⟨k, gk, ck, hk, rfl, HO, HX1, HX2, HR, HBL, HSZ, HNE⟩ := hrel
    clear HLT HQ Q1 Q2 Q3 Q4
    obtain ⟨k0, k1, kf, _, _⟩ := HX1.out.cells
    by_cases hlt : k < n
    · obtain ⟨u, hrow⟩ : ∃ r, us[k]? = some r := ⟨_, List.getElem?_eq_getElem (by rw [HN.out]; exact hlt)⟩
      have hwl : (wipe us (placesL idleU us k)).length = n := by rw [wipe_length, HN.out]
      have hget : (wipe us (placesL idleU us k))[k]? = some u := by rw [wipe_get (fun x hx => Nat.ne_of_lt (placesL_lt _ _ _ x hx))]; exact hrow
      obtain ⟨c0, c1, c2⟩ := use_cells HR.out hget
      have hx1 : (0 : Int) ≤ (k : Int) := by omega
      have hx2 : (k : Int) < (n : Int) := by omega
      by_cases hid : idleU u = true
      · have t1 : (u.state == 1) = true := by unfold idleU at hid; simp at hid ⊢; exact hid.1
        have t2 : (u.live == 0) = true := by unfold idleU at hid; simp at hid ⊢; exact hid.2
        have hP : placesL idleU us (k + 1) = placesL idleU us k ++ [k] := placesL_yes hrow hid
        have hW : (wipe us (placesL idleU us k)).set k zeroU = wipe us (placesL idleU us (k + 1)) := by rw [hP, wipe_snoc]
        have HNextV : Hid (natV (placesL idleU us (k + 1)) = natV (placesL idleU us k) ++ [.int .i64 (k : Int)]) := by show _ = _; rw [hP, natV_append]; rfl
        have hpl := placesL_length idleU us k
        have HLen : Hid ((natV (placesL idleU us k)).length ≤ 100000) := by show _ ≤ _; rw [natV_length]; omega
        have hpt := rput_is room (some ⟨gk, 0, none⟩) ck (wipe us (placesL idleU us k)) k u zeroU hget wr (use_reads HR.out) (by rw [hwl]; exact hlen)
        rw [hW] at hpt
        rw [hwl] at hpt
        have HPT := Lib.hid hpt
        have HWL2 : Hid ((wipe us (placesL idleU us (k + 1))).length = n) := by show _ = _; rw [wipe_length, HN.out]
        clear hpt hW hP hrow hget hwl hid hpl
        go_wp2_with fail
        refine HPT.out.mono ?_
        rintro e w3 ⟨g3, c3, rfl, o3, b3⟩
        rw [HWL2.out] at o3 ⊢
        have hg3 := (o3.lt g3 rfl).1
        have hsz := HSZ.out
        have hb := HBW.out
        have x1 := HX1.out.below b3
        obtain ⟨⟨m0, m1, mf0, mf1⟩, ⟨n0, n1, nf1⟩, ⟨p0, p1⟩, hg⟩ := fin_facts x1 room (.slice (some ⟨g3, 0, none⟩) n c3)
        have y1 := (x1.set0 room).set (.slice (some ⟨g3, 0, none⟩) n c3)
        have y2 := (HX2.out.below b3).kept hg (by intro e; have e2 : w.heap.size + 1 = w.heap.size := Option.some.inj e; omega)
        have yo := (o3.kept hg (.inr (by intro e; have e2 : g3 = w.heap.size := Option.some.inj e; omega))).less (B' := B) (by omega)
        have yv := (HO.out.below b3).kept hg (.inr (by intro e; have := (HO.out.lt _ e).1; omega))
        have yb := (HBL.out.trans (b3.mono HBL.out.size)).grown hg (by have := b3.size; omega) (by intro j hj; have e2 : w.heap.size = j := Option.some.inj hj; omega)
        have ys : w.heap.size + 2 ≤ ((w3.setCell ⟨w.heap.size, 0, none⟩ (.int .i64 room)).setCell ⟨w.heap.size, 1, none⟩ (.slice (some ⟨g3, 0, none⟩) n c3)).heap.size := by have := b3.size; have := hg.size; omega
        obtain ⟨W4, hW4⟩ : ∃ W4, (w3.setCell ⟨w.heap.size, 0, none⟩ (.int .i64 room)).setCell ⟨w.heap.size, 1, none⟩ (.slice (some ⟨g3, 0, none⟩) n c3) = W4 := ⟨_, rfl⟩
        rw [hW4] at p0 p1 y1 y2 yo yv yb ys
        have Y1 := Lib.hid (y1.below (below_box W4 (.cells #[.int .i64 (k : Int)] 3)))
        have Y2 := Lib.hid (y2.below (below_box W4 (.cells #[.int .i64 (k : Int)] 3)))
        have YO := Lib.hid (yo.alloc (.cells #[.int .i64 (k : Int)] 3))
        have YV := Lib.hid (yv.alloc (.cells #[.int .i64 (k : Int)] 3))
        have YB := Lib.hid (yb.alloc yb.size (.cells #[.int .i64 (k : Int)] 3))
        have YS : Hid (w.heap.size + 2 ≤ (W4.alloc (.cells #[.int .i64 (k : Int)] 3)).heap.size) := by show _ ≤ _; rw [World.size_alloc]; omega
        have NE3 : Hid (g3 ≠ w.heap.size ∧ g3 ≠ w.heap.size + 1) := Lib.hid (by omega)
        clear o3 b3 hg3 hsz hb x1 hg y1 y2 yo yv yb ys k0 k1 kf c0 c1 c2
        go_wp2_with (at_builtin; refine wpList_append_vals rfl _ _ 69 rfl (w.heap.size + 2) 3 (.int .i64 0) 8 Try.underlying69 info_int rfl _ _ rfl YV.out _ _ _ rfl _ (ReadsV.lit W4 #[.int .i64 (k : Int)] 3) (by intro y hy; simp at hy; subst hy; rfl) (by have := HLen.out; simp; omega) (by have := HLen.out; unfold maxLen; simp; omega) YS.out ?_; intro v' w5 ho hg)
        have HAP := Lib.hid (apartVR YV.out YO.out (by decide))
        have hho : OwnsV (w.heap.size + 2) w5 3 v' (natV (placesL idleU us (k + 1))) := by rw [HNextV.out]; exact ho
        have HHO := Lib.hid hho
        have HG := Lib.hid hg
        clear ho hg hho
        go_roundw
        case rel =>
          refine ⟨k + 1, g3, c3, by omega, by go_num, HHO.out, ?_, ?_, ?_, ?_, ?_, NE3⟩
          · exact Y1.out.kept HG.out (by intro e; have := (YV.out.lt _ e.symm).1; omega)
          · exact Y2.out.kept HG.out (by intro e; have := (YV.out.lt _ e.symm).1; omega)
          · exact YO.out.kept HG.out (.inr (fun e => HAP.out e.symm))
          · exact YB.out.grown HG.out YB.out.size (fun j hj => by have := (YV.out.lt j hj).1; omega)
          · exact Nat.le_trans YS.out HG.out.size
        case measure => simp [intOf]; omega
      · have hP : placesL idleU us (k + 1) = placesL idleU us k := placesL_no hrow (by simpa using hid)
        have HP := Lib.hid hP
        have HID := Lib.hid hid
        clear hP hrow hget hwl hid
        cases t1 : (u.state == 1) with
        | false =>
          go_wp2_with fail
          go_roundw
          case rel => exact ⟨k + 1, gk, ck, by omega, by go_num, by show OwnsV _ _ _ _ _; rw [HP.out]; exact HO.out, HX1, HX2, by show OwnsR' _ _ _ _ _ _; rw [HP.out]; exact HR.out, HBL, HSZ, HNE⟩
          case measure => simp [intOf]; omega
        | true =>
          have t2 : (u.live == 0) = false := by
            have := HID.out
            unfold idleU at this
            rw [t1] at this
            simpa using this
          go_wp2_with fail
          go_roundw
          case rel => exact ⟨k + 1, gk, ck, by omega, by go_num, by show OwnsV _ _ _ _ _; rw [HP.out]; exact HO.out, HX1, HX2, by show OwnsR' _ _ _ _ _ _; rw [HP.out]; exact HR.out, HBL, HSZ, HNE⟩
          case measure => simp [intOf]; omega
    · have hkn : k = n := by omega
      subst hkn
      have HFULL : Hid (placesL idleU us k = M) := by show _ = _; rw [← HM.out]; unfold idleL; rw [HN.out]
      have ho := HO.out
      have hr := HR.out
      rw [HFULL.out] at ho hr
      obtain ⟨av, cv, rfl, hrv, _, _⟩ := ho.reads
      rw [natV_length, HMM.out] at hrv ⊢
      obtain ⟨⟨m0, m1, mf0, mf1⟩, ⟨n0, n1, nf1⟩, ⟨p0, p1⟩, hg⟩ := fin_facts HX2.out room (.slice (some ⟨gk, 0, none⟩) k ck)
      have hoF := ho.kept hg (.inr (by intro e; have := (ho.lt _ e).1; omega))
      have hrF := hr.kept hg (.inr (by intro e; have e2 : gk = w.heap.size + 1 := Option.some.inj e; exact HNE.out.2 e2))
      have hbF := HBL.out.grown hg HBL.out.size (by intro j hj; have e2 : w.heap.size + 1 = j := Option.some.inj hj; omega)
      obtain ⟨a', c', hv', hrd, _, _⟩ := hoF.reads
      have ea := (Value.slice.inj hv').1
      rw [← ea] at hrd
      clear ea
      rw [natV_length, HMM.out] at hrd
      have HRD := Lib.hid hrd
      have HRF := Lib.hid hrF
      have HBF := Lib.hid hbF
      clear ho hr hrv hg hoF hrF hbF hrd hv' HFULL HO HR HX1 HX2 HN hlt
      go_wp2
      refine bodyPost_ret (v := .tuple #[.agg #[.int .i64 room, .slice (some ⟨gk, 0, none⟩) k ck], .slice av mm cv]) (by simp [results, Try.results87, go_sem, p0, p1]) rfl ⟨gk, ck, av, cv, rfl, HRF.out, HRD.out, HBF.out⟩
end Go.Proofs.Ytnlbjpnhepdicaa
