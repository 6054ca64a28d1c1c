/- Paths joined, by the program's walk: where the second one is a directory's. -/
import Derived.Test.YtpnafikmbbnecaaDoorJoin
namespace Go.Proofs.YtpnafikmbbnecaaDoor
open Go.RowKit Go.Sort
set_option linter.unusedVariables false
set_option linter.unusedSimpArgs false
set_option maxRecDepth 100000

set_option maxHeartbeats 6400000 in
theorem join_dir (ab : Bool) (a1 : Bool) (x : Option Addr) (cx : Nat) (N : List Bs) (b : Option Addr) (c : Nat) (M : List Bs) (w : World) (hr : ReadsV w x N.length (strsV N)) (hr2 : ReadsV w b M.length (strsV M)) (hN : N.length ≤ 400) (hM : M.length ≤ 400) :
    Calls Tryd.prog 7 #[.agg #[.bool ab, .bool a1, .slice x N.length cx], .agg #[.bool false, .bool true, .slice b M.length c]] w (JoinPost ab true (N ++ M) w) := by
  obtain ⟨hk1, hk2, hres, hsz, hbw⟩ := boxes3 w (.bool ab) (.bool a1) (.slice x N.length cx) (.bool false) (.bool true) (.slice b M.length c) 25
  have HRES := Lib.hid hres
  have HSZ := Lib.hid hsz
  have HBW := Lib.hid hbw
  have HR := Lib.hid hr
  have HR2 := Lib.hid hr2
  have HMM := Lib.hid hM
  have HNN := Lib.hid hN
  obtain ⟨W, hW⟩ : ∃ W, ((w.alloc (.cells #[.bool ab, .bool a1, .slice x N.length cx] 25)).alloc (.cells #[.bool false, .bool true, .slice b M.length c] 25)).alloc (.cells #[.bool false, .bool false, .slice none 0 0] 25) = W := ⟨_, rfl⟩
  rw [hW] at hk1 hk2 HRES HSZ HBW
  have HWW := Lib.hid hW
  have HK : Hid (∀ w', Below (w.heap.size + 2) W w' → w'.cell? ⟨w.heap.size, 0, none⟩ = some (.bool ab) ∧ w'.cell? ⟨w.heap.size, 2, none⟩ = some (.slice x N.length cx) ∧ w'.cell? ⟨w.heap.size + 1, 1, none⟩ = some (.bool true) ∧ w'.cell? ⟨w.heap.size + 1, 2, none⟩ = some (.slice b M.length c)) := fun w' hb =>
    ⟨(hb.cell (p := ⟨w.heap.size, 0, none⟩) (by show w.heap.size < w.heap.size + 2; omega)).trans hk1.1, (hb.cell (p := ⟨w.heap.size, 2, none⟩) (by show w.heap.size < w.heap.size + 2; omega)).trans hk1.2.2.1,
      (hb.cell (p := ⟨w.heap.size + 1, 1, none⟩) (by show w.heap.size + 1 < w.heap.size + 2; omega)).trans hk2.2.1, (hb.cell (p := ⟨w.heap.size + 1, 2, none⟩) (by show w.heap.size + 1 < w.heap.size + 2; omega)).trans hk2.2.2.1⟩
  obtain ⟨c0, c1, c2, _, _, _, hz⟩ := hk2
  obtain ⟨e0, e1, e2, _, _, _, hz1⟩ := hk1
  clear hres hsz hbw hr hr2 hM hN hW
  have H0 : Below (w.heap.size + 2) W W.drew := ⟨rfl, rfl, rfl, Nat.le_refl _, fun _ _ => rfl⟩
  have H1 : Below (w.heap.size + 2) W ((W.alloc (.cells #[.slice x N.length cx, .slice b M.length c] 23)).drew) := by
    have := (Below.refl (w.heap.size + 2) W).alloc (by rw [HSZ.out]; omega) (.cells #[.slice x N.length cx, .slice b M.length c] 23)
    exact ⟨this.os, this.tape, this.output, this.size, this.block⟩
  have hcl : ((W.alloc (.cells #[.slice x N.length cx, .slice b M.length c] 23)).drew).cell? ⟨W.heap.size, 0, none⟩ = some (.slice x N.length cx) ∧ ((W.alloc (.cells #[.slice x N.length cx, .slice b M.length c] 23)).drew).cell? ⟨W.heap.size, 1, none⟩ = some (.slice b M.length c) := by
    show (W.alloc (.cells #[.slice x N.length cx, .slice b M.length c] 23)).cell? ⟨W.heap.size, 0, none⟩ = some (.slice x N.length cx) ∧ (W.alloc (.cells #[.slice x N.length cx, .slice b M.length c] 23)).cell? ⟨W.heap.size, 1, none⟩ = some (.slice b M.length c)
    unfold World.cell?
    rw [heap_alloc_new]; exact ⟨rfl, rfl⟩
  have HCL := Lib.hid hcl
  have HRD : Hid (ReadsV ((W.alloc (.cells #[.slice x N.length cx, .slice b M.length c] 23)).drew) x N.length (strsV N)) := by
    have h1 := (HR.out.below HBW.out).alloc (.cells #[.slice x N.length cx, .slice b M.length c] 23)
    exact ⟨h1.1, h1.2⟩
  have HRD2 : Hid (ReadsV ((W.alloc (.cells #[.slice x N.length cx, .slice b M.length c] 23)).drew) b M.length (strsV M)) := by
    have h1 := (HR2.out.below HBW.out).alloc (.cells #[.slice x N.length cx, .slice b M.length c] 23)
    exact ⟨h1.1, h1.2⟩
  have HGG : Hid (W.heap.size < ((W.alloc (.cells #[.slice x N.length cx, .slice b M.length c] 23)).drew).heap.size) := by show W.heap.size < (W.alloc (.cells #[.slice x N.length cx, .slice b M.length c] 23)).heap.size; simp
  have HRL : Hid (((W.alloc (.cells #[.slice x N.length cx, .slice b M.length c] 23)).drew).heap[w.heap.size + 1 + 1]? = some (.cells #[.bool false, .bool false, .slice none 0 0] 25 (0, 0))) := by
    show (W.alloc (.cells #[.slice x N.length cx, .slice b M.length c] 23)).heap[w.heap.size + 1 + 1]? = _
    rw [Below.heap_alloc _ _ _ (by have := HSZ.out; omega)]
    exact HRES.out
  clear hcl
  · skip
    go_enter Tryd.func7, Tryd.ntmps7
    go_wp2_with fail
    rw [HWW.out]
    refine wp_region_held_drew (S := (fun w' => w'.cell? ⟨w.heap.size, 0, none⟩ = some (.bool ab) ∧ w'.cell? ⟨w.heap.size, 2, none⟩ = some (.slice x N.length cx) ∧ w'.cell? ⟨w.heap.size + 1, 1, none⟩ = some (.bool true) ∧ w'.cell? ⟨w.heap.size + 1, 2, none⟩ = some (.slice b M.length c))) (by kernel_rfl) (HK.out _ H0) (fun hHeld => ?_)
    refine wpAnyH_take (i := 0) (v := .pointer (some ⟨w.heap.size, 0, none⟩)) rfl (by kernel_rfl) (by kernel_rfl) (by kernel_rfl) (fun _ _ _ h => h) (Or.inl ⟨by kernel_rfl, fun wS hSw => by
      dsimp only at hSw
      obtain ⟨q0, q1, q2, q3⟩ := hSw
      go_simp⟩) hHeld ?_
    try simp only [Act.put, List.setIfInBounds_toArray, List.set_cons_zero, List.set_cons_succ]
    refine wpAnyH_take (i := 1) (v := .bool ab) rfl (by kernel_rfl) (by kernel_rfl) (by kernel_rfl) (fun _ _ _ h => h) (Or.inl ⟨by kernel_rfl, fun wS hSw => by
      dsimp only at hSw
      obtain ⟨q0, q1, q2, q3⟩ := hSw
      go_simp⟩) hHeld ?_
    try simp only [Act.put, List.setIfInBounds_toArray, List.set_cons_zero, List.set_cons_succ]
    refine wpAnyH_take (i := 2) (v := .pointer (some ⟨(w.heap.size + 1), 1, none⟩)) rfl (by kernel_rfl) (by kernel_rfl) (by kernel_rfl) (fun _ _ _ h => h) (Or.inl ⟨by kernel_rfl, fun wS hSw => by
      dsimp only at hSw
      obtain ⟨q0, q1, q2, q3⟩ := hSw
      go_simp⟩) hHeld ?_
    try simp only [Act.put, List.setIfInBounds_toArray, List.set_cons_zero, List.set_cons_succ]
    refine wpAnyH_take (i := 3) (v := .bool true) rfl (by kernel_rfl) (by kernel_rfl) (by kernel_rfl) (fun _ _ _ h => h) (Or.inl ⟨by kernel_rfl, fun wS hSw => by
      dsimp only at hSw
      obtain ⟨q0, q1, q2, q3⟩ := hSw
      go_simp⟩) hHeld ?_
    try simp only [Act.put, List.setIfInBounds_toArray, List.set_cons_zero, List.set_cons_succ]
    refine wpAnyH_take (i := 4) (v := .bool true) rfl (by kernel_rfl) (by kernel_rfl) (by kernel_rfl) (fun _ _ _ h => h) (Or.inl ⟨by kernel_rfl, fun wS hSw => by
      dsimp only at hSw
      obtain ⟨q0, q1, q2, q3⟩ := hSw
      go_simp⟩) hHeld ?_
    try simp only [Act.put, List.setIfInBounds_toArray, List.set_cons_zero, List.set_cons_succ]
    refine wpAnyH_take (i := 5) (v := undef) rfl (by kernel_rfl) (by kernel_rfl) (by kernel_rfl) (fun _ _ _ h => h) (Or.inr ⟨by kernel_rfl, rfl⟩) hHeld ?_
    try simp only [Act.put, List.setIfInBounds_toArray, List.set_cons_zero, List.set_cons_succ]
    refine wpAnyH_take (i := 6) (v := undef) rfl (by kernel_rfl) (by kernel_rfl) (by kernel_rfl) (fun _ _ _ h => h) (Or.inr ⟨by kernel_rfl, rfl⟩) hHeld ?_
    try simp only [Act.put, List.setIfInBounds_toArray, List.set_cons_zero, List.set_cons_succ]
    refine wpAnyH_take (i := 7) (v := undef) rfl (by kernel_rfl) (by kernel_rfl) (by kernel_rfl) (fun _ _ _ h => h) (Or.inr ⟨by kernel_rfl, rfl⟩) hHeld ?_
    try simp only [Act.put, List.setIfInBounds_toArray, List.set_cons_zero, List.set_cons_succ]
    refine wpAnyH_take (i := 8) (v := undef) rfl (by kernel_rfl) (by kernel_rfl) (by kernel_rfl) (fun _ _ _ h => h) (Or.inr ⟨by kernel_rfl, rfl⟩) hHeld ?_
    try simp only [Act.put, List.setIfInBounds_toArray, List.set_cons_zero, List.set_cons_succ]
    refine wpAnyH_take (i := 9) (v := .bool true) rfl (by kernel_rfl) (by kernel_rfl) (by kernel_rfl) (fun _ _ _ h => h) (Or.inl ⟨by kernel_rfl, fun wS hSw => by
      dsimp only at hSw
      obtain ⟨q0, q1, q2, q3⟩ := hSw
      go_simp⟩) hHeld ?_
    try simp only [Act.put, List.setIfInBounds_toArray, List.set_cons_zero, List.set_cons_succ]
    refine wpAnyH_take (i := 10) (v := .pointer (some ⟨w.heap.size, 2, none⟩)) rfl (by kernel_rfl) (by kernel_rfl) (by kernel_rfl) (fun _ _ _ h => h) (Or.inl ⟨by kernel_rfl, fun wS hSw => by
      dsimp only at hSw
      obtain ⟨q0, q1, q2, q3⟩ := hSw
      go_simp⟩) hHeld ?_
    try simp only [Act.put, List.setIfInBounds_toArray, List.set_cons_zero, List.set_cons_succ]
    refine wpAnyH_take (i := 11) (v := .slice x N.length cx) rfl (by kernel_rfl) (by kernel_rfl) (by kernel_rfl) (fun _ _ _ h => h) (Or.inl ⟨by kernel_rfl, fun wS hSw => by
      dsimp only at hSw
      obtain ⟨q0, q1, q2, q3⟩ := hSw
      go_simp⟩) hHeld ?_
    try simp only [Act.put, List.setIfInBounds_toArray, List.set_cons_zero, List.set_cons_succ]
    refine wpAnyH_take (i := 12) (v := .pointer (some ⟨(w.heap.size + 1), 2, none⟩)) rfl (by kernel_rfl) (by kernel_rfl) (by kernel_rfl) (fun _ _ _ h => h) (Or.inl ⟨by kernel_rfl, fun wS hSw => by
      dsimp only at hSw
      obtain ⟨q0, q1, q2, q3⟩ := hSw
      go_simp⟩) hHeld ?_
    try simp only [Act.put, List.setIfInBounds_toArray, List.set_cons_zero, List.set_cons_succ]
    refine wpAnyH_take (i := 13) (v := .slice b M.length c) rfl (by kernel_rfl) (by kernel_rfl) (by kernel_rfl) (fun _ _ _ h => h) (Or.inl ⟨by kernel_rfl, fun wS hSw => by
      dsimp only at hSw
      obtain ⟨q0, q1, q2, q3⟩ := hSw
      go_simp⟩) hHeld ?_
    try simp only [Act.put, List.setIfInBounds_toArray, List.set_cons_zero, List.set_cons_succ]
    refine wpAnyH_ready (rs := [14]) (by kernel_rfl) (by simp) ?_
    refine AllReadyH.cons rfl (fun K hK => ?_) AllReadyH.nil
    go_simp
    refine hK.out _ _ (HK.out _ H1) (fun hHeld2 => ?_)
    clear hK K hHeld
    have hHeld := hHeld2
    clear hHeld2
    try simp only [Act.put, List.setIfInBounds_toArray, List.set_cons_zero, List.set_cons_succ]
    refine wpAnyH_ready (rs := [15]) (by kernel_rfl) (by simp) ?_
    refine AllReadyH.cons rfl (fun K hK => ?_) AllReadyH.nil
    go_simp
    refine (joined_two _ x b cx c N M _ HGG.out HCL.out.1 HCL.out.2 HRD.out HRD2.out HNN.out HMM.out).mono ?_
    rintro e w5 ⟨v5, rfl, o5, b5⟩
    have k5 : Below (w.heap.size + 2) W w5 := H1.trans (b5.mono (by have := HSZ.out; have := HGG.out; omega))
    obtain ⟨a5, c5, hv5, _, _, _⟩ := o5.reads
    obtain ⟨n5, hn5⟩ : ∃ n5, (strsV (N ++ M)).length = n5 := ⟨_, rfl⟩
    rw [hn5] at hv5
    subst hv5
    have hr5 : w5.heap[w.heap.size + 1 + 1]? = some (.cells #[.bool false, .bool false, .slice none 0 0] 25 (0, 0)) := (b5.block _ (by have := HSZ.out; have := HGG.out; omega)).trans HRL.out
    have HR5 := Lib.hid hr5
    obtain ⟨r0, r1, r2, g0, g1, g2, gz⟩ := kept3_of (t := 25) hr5
    clear hr5
    try dsimp only
    refine hK.out _ _ (HK.out _ k5) (fun hHeld2 => ?_)
    clear hK K hHeld
    have hHeld := hHeld2
    clear hHeld2
    try simp only [Act.put, List.setIfInBounds_toArray, List.set_cons_zero, List.set_cons_succ]
    refine wpAnyH_take (i := 16) (v := .agg #[.bool ab, .bool true, .slice a5 n5 c5]) rfl (by kernel_rfl) (by kernel_rfl) (by kernel_rfl) (fun _ _ _ h => h) (Or.inl ⟨by kernel_rfl, fun wS hSw => by
      dsimp only at hSw
      obtain ⟨q0, q1, q2, q3⟩ := hSw
      go_simp⟩) hHeld ?_
    try simp only [Act.put, List.setIfInBounds_toArray, List.set_cons_zero, List.set_cons_succ]
    refine wpAnyH_ready (rs := [17]) (by kernel_rfl) (by simp) ?_
    refine AllReadyH.cons rfl (fun K hK => ?_) AllReadyH.nil
    go_simp
    refine hK.out _ _ (HK.out _ (((k5.setCell (by simp) _).setCell (by simp) _).setCell (by simp) _)) (fun hHeld2 => ?_)
    clear hK K hHeld
    have hHeld := hHeld2
    clear hHeld2
    try simp only [Act.put, List.setIfInBounds_toArray, List.set_cons_zero, List.set_cons_succ]
    refine wpAnyH_done (by kernel_rfl) ?_ _
    clear hHeld
    obtain ⟨s0, s1, s2⟩ := box_over HR5.out (.bool ab) (.bool true) (.slice a5 n5 c5)
    have HO5 := Lib.hid o5
    have HK5 := Lib.hid k5
    have HB5 := Lib.hid b5
    clear r0 r1 r2 g0 g1 g2 gz o5 k5 b5 H0 H1
    go_wp2
    refine bodyPost_ret (v := .agg #[.bool ab, .bool true, .slice a5 n5 c5]) (by simp [results, Tryd.results7, go_sem, s0, s1, s2]) rfl ⟨_, rfl, ?_, ?_⟩
    · have hbase : w.heap.size + 1 + 1 < ((W.alloc (.cells #[.slice x N.length cx, .slice b M.length c] 23)).drew).heap.size := by have := HGG.out; have := HSZ.out; omega
      exact (owns_over HO5.out hbase _ _ _).less (by omega)
    · refine below_over (HBW.out.trans (HK5.out.mono ?_)) ?_ _ _ _ <;> omega
end Go.Proofs.YtpnafikmbbnecaaDoor
