/- Paths joined, by the program's walk: the whole. -/
import Derived.Test.YtpnafikmbbnecaaDoorJoined
namespace Go.Proofs.YtpnafikmbbnecaaDoor
open Go.RowKit Go.Sort
set_option linter.unusedVariables false
set_option linter.unusedSimpArgs false
set_option maxRecDepth 100000

def JoinPost (ab di : Bool) (L : List Bs) (w : World) (e : Ending) (w' : World) : Prop := ∃ v, e = .returned (.agg #[.bool ab, .bool di, v]) ∧ OwnsV w.heap.size w' 9 v (strsV L) ∧ Below w.heap.size w w'
/-- What stands behind the three boxes. -/
theorem boxes3 (w : World) (a0 a1 a2 b0 b1 b2 : Value) (T : TypeId) : Kept3 (((w.alloc (.cells #[a0, a1, a2] T)).alloc (.cells #[b0, b1, b2] T)).alloc (.cells #[.bool false, .bool false, .slice none 0 0] T)) w.heap.size a0 a1 a2 ∧
    Kept3 (((w.alloc (.cells #[a0, a1, a2] T)).alloc (.cells #[b0, b1, b2] T)).alloc (.cells #[.bool false, .bool false, .slice none 0 0] T)) (w.heap.size + 1) b0 b1 b2 ∧
    (((w.alloc (.cells #[a0, a1, a2] T)).alloc (.cells #[b0, b1, b2] T)).alloc (.cells #[.bool false, .bool false, .slice none 0 0] T)).heap[w.heap.size + 1 + 1]? = some (.cells #[.bool false, .bool false, .slice none 0 0] T (0, 0)) ∧
    (((w.alloc (.cells #[a0, a1, a2] T)).alloc (.cells #[b0, b1, b2] T)).alloc (.cells #[.bool false, .bool false, .slice none 0 0] T)).heap.size = w.heap.size + 3 ∧
    Below w.heap.size w (((w.alloc (.cells #[a0, a1, a2] T)).alloc (.cells #[b0, b1, b2] T)).alloc (.cells #[.bool false, .bool false, .slice none 0 0] T)) := by
  have e1 : (w.alloc (.cells #[a0, a1, a2] T)).heap.size = w.heap.size + 1 := by simp
  have e2 : ((w.alloc (.cells #[a0, a1, a2] T)).alloc (.cells #[b0, b1, b2] T)).heap.size = w.heap.size + 1 + 1 := by simp
  refine ⟨((kept3_of (t := T) (heap_alloc_new w _)).more _).more _, ?_, ?_, by simp, ((below_box w _).alloc (by simp) _).alloc (by simp; omega) _⟩
  · have h := kept3_of (t := T) (heap_alloc_new (w.alloc (.cells #[a0, a1, a2] T)) (.cells #[b0, b1, b2] T))
    rw [e1] at h
    exact h.more _
  · have h := heap_alloc_new ((w.alloc (.cells #[a0, a1, a2] T)).alloc (.cells #[b0, b1, b2] T)) (.cells #[.bool false, .bool false, .slice none 0 0] T)
    rwa [e2] at h

set_option maxHeartbeats 3200000 in
theorem join_abs (a0 a1 : Bool) (x : Option Addr) (n cx : Nat) (di : Bool) (b : Option Addr) (c : Nat) (M : List Bs) (w : World) (hr : ReadsV w b M.length (strsV M)) (hM : M.length ≤ 400) :
    Calls Tryd.prog 7 #[.agg #[.bool a0, .bool a1, .slice x n cx], .agg #[.bool true, .bool di, .slice b M.length c]] w (JoinPost true di M w) := by
  obtain ⟨hk1, hk2, hres, hsz, hbw⟩ := boxes3 w (.bool a0) (.bool a1) (.slice x n cx) (.bool true) (.bool di) (.slice b M.length c) 25
  have HRES := Lib.hid hres
  have HSZ := Lib.hid hsz
  have HBW := Lib.hid hbw
  have HR := Lib.hid hr
  have HMM := Lib.hid hM
  obtain ⟨W, hW⟩ : ∃ W, ((w.alloc (.cells #[.bool a0, .bool a1, .slice x n cx] 25)).alloc (.cells #[.bool true, .bool di, .slice b M.length c] 25)).alloc (.cells #[.bool false, .bool false, .slice none 0 0] 25) = W := ⟨_, rfl⟩
  rw [hW] at hk1 hk2 HRES HSZ HBW
  have HWW := Lib.hid hW
  have HK : Hid (∀ w', Below (w.heap.size + 2) W w' → w'.cell? ⟨w.heap.size + 1, 1, none⟩ = some (.bool di) ∧ w'.cell? ⟨w.heap.size + 1, 2, none⟩ = some (.slice b M.length c)) := fun w' hb =>
    ⟨(hb.cell (p := ⟨w.heap.size + 1, 1, none⟩) (by show w.heap.size + 1 < w.heap.size + 2; omega)).trans hk2.2.1, (hb.cell (p := ⟨w.heap.size + 1, 2, none⟩) (by show w.heap.size + 1 < w.heap.size + 2; omega)).trans hk2.2.2.1⟩
  obtain ⟨c0, c1, c2, _, _, _, hz⟩ := hk2
  clear hres hsz hbw hr hM hk1 hW
  go_enter Tryd.func7, Tryd.ntmps7
  go_wp2_with fail
  rw [HWW.out]
  have H0 : Below (w.heap.size + 2) W W.drew := ⟨rfl, rfl, rfl, Nat.le_refl _, fun _ _ => rfl⟩
  have H1 : Below (w.heap.size + 2) W ((W.alloc (.cells #[.slice b M.length c] 23)).drew) := by
    have := (Below.refl (w.heap.size + 2) W).alloc (by rw [HSZ.out]; omega) (.cells #[.slice b M.length c] 23)
    exact ⟨this.os, this.tape, this.output, this.size, this.block⟩
  have hcl : ((W.alloc (.cells #[.slice b M.length c] 23)).drew).cell? ⟨W.heap.size, 0, none⟩ = some (.slice b M.length c) := by
    show (W.alloc (.cells #[.slice b M.length c] 23)).cell? ⟨W.heap.size, 0, none⟩ = some (.slice b M.length c)
    unfold World.cell?
    rw [heap_alloc_new]; rfl
  have HCL := Lib.hid hcl
  have HRD : Hid (ReadsV ((W.alloc (.cells #[.slice b M.length c] 23)).drew) b M.length (strsV M)) := by
    have h1 := (HR.out.below HBW.out).alloc (.cells #[.slice b M.length c] 23)
    exact ⟨h1.1, h1.2⟩
  have HGG : Hid (W.heap.size < ((W.alloc (.cells #[.slice b M.length c] 23)).drew).heap.size) := by show W.heap.size < (W.alloc (.cells #[.slice b M.length c] 23)).heap.size; simp
  have HRL : Hid (((W.alloc (.cells #[.slice b M.length c] 23)).drew).heap[w.heap.size + 1 + 1]? = some (.cells #[.bool false, .bool false, .slice none 0 0] 25 (0, 0))) := by
    show (W.alloc (.cells #[.slice b M.length c] 23)).heap[w.heap.size + 1 + 1]? = _
    rw [Below.heap_alloc _ _ _ (by have := HSZ.out; omega)]
    exact HRES.out
  clear hcl
  go_region_held3 (fun w' => w'.cell? ⟨w.heap.size + 1, 1, none⟩ = some (.bool di) ∧ w'.cell? ⟨w.heap.size + 1, 2, none⟩ = some (.slice b M.length c))
    (first | exact HK.out _ H0 | exact HK.out _ H1 | exact HK.out _ k5 | exact HK.out _ (((k5.setCell (by simp) _).setCell (by simp) _).setCell (by simp) _))
    ((first
      | (go_at_call 17; refine (joined_one _ b c M _ HGG.out HCL.out HRD.out (by have := HMM.out; omega)).mono ?_; rintro e w5 ⟨v5, rfl, o5, b5⟩; have k5 : Below (w.heap.size + 2) W w5 := H1.trans (b5.mono (by have := HSZ.out; have := HGG.out; omega)); obtain ⟨a5, c5, hv5, _, _, _⟩ := o5.reads; obtain ⟨n5, hn5⟩ : ∃ n5, (strsV M).length = n5 := ⟨_, rfl⟩; rw [hn5] at hv5; subst hv5; have hr5 : w5.heap[w.heap.size + 1 + 1]? = some (.cells #[.bool false, .bool false, .slice none 0 0] 25 (0, 0)) := (b5.block _ (by have := HSZ.out; have := HGG.out; omega)).trans HRL.out; have HR5 := Lib.hid hr5; obtain ⟨r0, r1, r2, g0, g1, g2, gz⟩ := kept3_of (t := 25) hr5; clear hr5)))
  rename_i hHeld
  clear hHeld
  obtain ⟨s0, s1, s2⟩ := box_over HR5.out (.bool true) (.bool di) (.slice a5 n5 c5)
  have HO5 := Lib.hid o5
  have HK5 := Lib.hid k5
  have HB5 := Lib.hid b5
  clear r0 r1 r2 g0 g1 g2 gz o5 k5 b5 H0 H1
  go_wp2
  refine bodyPost_ret (v := .agg #[.bool true, .bool di, .slice a5 n5 c5]) (by simp [results, Tryd.results7, go_sem, s0, s1, s2]) rfl ⟨_, rfl, ?_, ?_⟩
  · have hbase : w.heap.size + 1 + 1 < ((W.alloc (.cells #[.slice b M.length c] 23)).drew).heap.size := by have := HGG.out; have := HSZ.out; omega
    exact (owns_over HO5.out hbase _ _ _).less (by omega)
  · refine below_over (HBW.out.trans (HK5.out.mono ?_)) ?_ _ _ _ <;> omega

set_option maxHeartbeats 6400000 in
theorem join_rel (ab : Bool) (a1 : Bool) (x : Option Addr) (cx : Nat) (N : List Bs) (di2 : Bool) (b : Option Addr) (c : Nat) (M : List Bs) (w : World) (hr : ReadsV w x N.length (strsV N)) (hr2 : ReadsV w b M.length (strsV M)) (hN : N.length ≤ 400) (hM : M.length ≤ 400) (hd : di2 = decide (M = [])) :
    Calls Tryd.prog 7 #[.agg #[.bool ab, .bool a1, .slice x N.length cx], .agg #[.bool false, .bool false, .slice b M.length c]] w (JoinPost ab di2 (N ++ M) w) := by
  obtain ⟨hk1, hk2, hres, hsz, hbw⟩ := boxes3 w (.bool ab) (.bool a1) (.slice x N.length cx) (.bool false) (.bool false) (.slice b M.length c) 25
  have HRES := Lib.hid hres
  have HSZ := Lib.hid hsz
  have HBW := Lib.hid hbw
  have HR := Lib.hid hr
  have HR2 := Lib.hid hr2
  have HMM := Lib.hid hM
  have HNN := Lib.hid hN
  obtain ⟨W, hW⟩ : ∃ W, ((w.alloc (.cells #[.bool ab, .bool a1, .slice x N.length cx] 25)).alloc (.cells #[.bool false, .bool false, .slice b M.length c] 25)).alloc (.cells #[.bool false, .bool false, .slice none 0 0] 25) = W := ⟨_, rfl⟩
  rw [hW] at hk1 hk2 HRES HSZ HBW
  have HWW := Lib.hid hW
  have HK : Hid (∀ w', Below (w.heap.size + 2) W w' → w'.cell? ⟨w.heap.size, 0, none⟩ = some (.bool ab) ∧ w'.cell? ⟨w.heap.size, 2, none⟩ = some (.slice x N.length cx) ∧ w'.cell? ⟨w.heap.size + 1, 1, none⟩ = some (.bool false) ∧ w'.cell? ⟨w.heap.size + 1, 2, none⟩ = some (.slice b M.length c)) := fun w' hb =>
    ⟨(hb.cell (p := ⟨w.heap.size, 0, none⟩) (by show w.heap.size < w.heap.size + 2; omega)).trans hk1.1, (hb.cell (p := ⟨w.heap.size, 2, none⟩) (by show w.heap.size < w.heap.size + 2; omega)).trans hk1.2.2.1,
      (hb.cell (p := ⟨w.heap.size + 1, 1, none⟩) (by show w.heap.size + 1 < w.heap.size + 2; omega)).trans hk2.2.1, (hb.cell (p := ⟨w.heap.size + 1, 2, none⟩) (by show w.heap.size + 1 < w.heap.size + 2; omega)).trans hk2.2.2.1⟩
  obtain ⟨c0, c1, c2, _, _, _, hz⟩ := hk2
  obtain ⟨e0, e1, e2, _, _, _, hz1⟩ := hk1
  have hdm : ((M.length : Int) == 0) = di2 := by
    rw [hd]
    cases M with
    | nil => rfl
    | cons m M => simp; omega
  clear hres hsz hbw hr hr2 hM hN hW hd
  have H0 : Below (w.heap.size + 2) W W.drew := ⟨rfl, rfl, rfl, Nat.le_refl _, fun _ _ => rfl⟩
  have H1 : Below (w.heap.size + 2) W ((W.alloc (.cells #[.slice x N.length cx, .slice b M.length c] 23)).drew) := by
    have := (Below.refl (w.heap.size + 2) W).alloc (by rw [HSZ.out]; omega) (.cells #[.slice x N.length cx, .slice b M.length c] 23)
    exact ⟨this.os, this.tape, this.output, this.size, this.block⟩
  have hcl : ((W.alloc (.cells #[.slice x N.length cx, .slice b M.length c] 23)).drew).cell? ⟨W.heap.size, 0, none⟩ = some (.slice x N.length cx) ∧ ((W.alloc (.cells #[.slice x N.length cx, .slice b M.length c] 23)).drew).cell? ⟨W.heap.size, 1, none⟩ = some (.slice b M.length c) := by
    show (W.alloc (.cells #[.slice x N.length cx, .slice b M.length c] 23)).cell? ⟨W.heap.size, 0, none⟩ = some (.slice x N.length cx) ∧ (W.alloc (.cells #[.slice x N.length cx, .slice b M.length c] 23)).cell? ⟨W.heap.size, 1, none⟩ = some (.slice b M.length c)
    unfold World.cell?
    rw [heap_alloc_new]; exact ⟨rfl, rfl⟩
  have HCL := Lib.hid hcl
  have HRD : Hid (ReadsV ((W.alloc (.cells #[.slice x N.length cx, .slice b M.length c] 23)).drew) x N.length (strsV N)) := by
    have h1 := (HR.out.below HBW.out).alloc (.cells #[.slice x N.length cx, .slice b M.length c] 23)
    exact ⟨h1.1, h1.2⟩
  have HRD2 : Hid (ReadsV ((W.alloc (.cells #[.slice x N.length cx, .slice b M.length c] 23)).drew) b M.length (strsV M)) := by
    have h1 := (HR2.out.below HBW.out).alloc (.cells #[.slice x N.length cx, .slice b M.length c] 23)
    exact ⟨h1.1, h1.2⟩
  have HGG : Hid (W.heap.size < ((W.alloc (.cells #[.slice x N.length cx, .slice b M.length c] 23)).drew).heap.size) := by show W.heap.size < (W.alloc (.cells #[.slice x N.length cx, .slice b M.length c] 23)).heap.size; simp
  have HRL : Hid (((W.alloc (.cells #[.slice x N.length cx, .slice b M.length c] 23)).drew).heap[w.heap.size + 1 + 1]? = some (.cells #[.bool false, .bool false, .slice none 0 0] 25 (0, 0))) := by
    show (W.alloc (.cells #[.slice x N.length cx, .slice b M.length c] 23)).heap[w.heap.size + 1 + 1]? = _
    rw [Below.heap_alloc _ _ _ (by have := HSZ.out; omega)]
    exact HRES.out
  clear hcl
  · skip
    go_enter Tryd.func7, Tryd.ntmps7
    go_wp2_with fail
    rw [HWW.out]
    go_region_held3 (fun w' => w'.cell? ⟨w.heap.size, 0, none⟩ = some (.bool ab) ∧ w'.cell? ⟨w.heap.size, 2, none⟩ = some (.slice x N.length cx) ∧ w'.cell? ⟨w.heap.size + 1, 1, none⟩ = some (.bool false) ∧ w'.cell? ⟨w.heap.size + 1, 2, none⟩ = some (.slice b M.length c))
      (first | exact HK.out _ H0 | exact HK.out _ H1 | exact HK.out _ k5 | exact HK.out _ (((k5.setCell (by simp) _).setCell (by simp) _).setCell (by simp) _))
      ((first
        | (go_at_call 17; refine (joined_two _ x b cx c N M _ HGG.out HCL.out.1 HCL.out.2 HRD.out HRD2.out HNN.out HMM.out).mono ?_; rintro e w5 ⟨v5, rfl, o5, b5⟩; have k5 : Below (w.heap.size + 2) W w5 := H1.trans (b5.mono (by have := HSZ.out; have := HGG.out; omega)); obtain ⟨a5, c5, hv5, _, _, _⟩ := o5.reads; obtain ⟨n5, hn5⟩ : ∃ n5, (strsV (N ++ M)).length = n5 := ⟨_, rfl⟩; rw [hn5] at hv5; subst hv5; have hr5 : w5.heap[w.heap.size + 1 + 1]? = some (.cells #[.bool false, .bool false, .slice none 0 0] 25 (0, 0)) := (b5.block _ (by have := HSZ.out; have := HGG.out; omega)).trans HRL.out; have HR5 := Lib.hid hr5; obtain ⟨r0, r1, r2, g0, g1, g2, gz⟩ := kept3_of (t := 25) hr5; clear hr5)))
    rename_i hHeld
    clear hHeld
    obtain ⟨s0, s1, s2⟩ := box_over HR5.out (.bool ab) (.bool di2) (.slice a5 n5 c5)
    have HO5 := Lib.hid o5
    have HK5 := Lib.hid k5
    have HB5 := Lib.hid b5
    clear r0 r1 r2 g0 g1 g2 gz o5 k5 b5 H0 H1
    go_wp2
    refine bodyPost_ret (v := .agg #[.bool ab, .bool di2, .slice a5 n5 c5]) (by simp [results, Tryd.results7, go_sem, s0, s1, s2]) rfl ⟨_, rfl, ?_, ?_⟩
    · have hbase : w.heap.size + 1 + 1 < ((W.alloc (.cells #[.slice x N.length cx, .slice b M.length c] 23)).drew).heap.size := by have := HGG.out; have := HSZ.out; omega
      exact (owns_over HO5.out hbase _ _ _).less (by omega)
    · refine below_over (HBW.out.trans (HK5.out.mono ?_)) ?_ _ _ _ <;> omega
end Go.Proofs.YtpnafikmbbnecaaDoor
