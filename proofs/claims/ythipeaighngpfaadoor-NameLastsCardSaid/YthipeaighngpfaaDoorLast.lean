/- A path's last part, by the program's walk. -/
import Derived.Test.YthipeaighngpfaaDoorJoin
namespace Go.Proofs.YthipeaighngpfaaDoor
open Go.RowKit Go.Sort
set_option linter.unusedVariables false
set_option linter.unusedSimpArgs false
set_option maxRecDepth 100000

/-- What is left ahead of the last part; the last part; is there one? -/
def LastPost (ab : Bool) (Q : List Bs) (w : World) (e : Ending) (w' : World) : Prop :=
  ((Q = [] ∨ endsUp Q = true) ∧ e = .returned (.tuple #[.agg #[.bool false, .bool false, .slice none 0 0], .string ⟨#[]⟩, .bool false]) ∧ Below w.heap.size w w') ∨
  (∃ D p v, Q = D ++ [p] ∧ endsUp Q = false ∧ e = .returned (.tuple #[.agg #[.bool ab, .bool true, v], strV p, .bool true]) ∧ OwnsV w.heap.size w' 9 v (strsV D) ∧ Below w.heap.size w w')
theorem boxes2 (w : World) (a0 a1 a2 : Value) (T : TypeId) : Kept3 ((w.alloc (.cells #[a0, a1, a2] T)).alloc (.cells #[.bool false, .bool false, .slice none 0 0] T)) w.heap.size a0 a1 a2 ∧
    ((w.alloc (.cells #[a0, a1, a2] T)).alloc (.cells #[.bool false, .bool false, .slice none 0 0] T)).heap[w.heap.size + 1]? = some (.cells #[.bool false, .bool false, .slice none 0 0] T (0, 0)) ∧
    ((w.alloc (.cells #[a0, a1, a2] T)).alloc (.cells #[.bool false, .bool false, .slice none 0 0] T)).heap.size = w.heap.size + 2 ∧
    Below w.heap.size w ((w.alloc (.cells #[a0, a1, a2] T)).alloc (.cells #[.bool false, .bool false, .slice none 0 0] T)) := by
  have e1 : (w.alloc (.cells #[a0, a1, a2] T)).heap.size = w.heap.size + 1 := by simp
  refine ⟨(kept3_of (t := T) (heap_alloc_new w _)).more _, ?_, by simp, (below_box w _).alloc (by simp) _⟩
  have h := heap_alloc_new (w.alloc (.cells #[a0, a1, a2] T)) (.cells #[.bool false, .bool false, .slice none 0 0] T)
  rwa [e1] at h

set_option maxHeartbeats 3200000 in
theorem last_none (ab di : Bool) (a : Option Addr) (cp : Nat) (Q : List Bs) (w : World) (hr : ReadsV w a Q.length (strsV Q)) (hq : Q.length ≤ 400) (h : Q = [] ∨ endsUp Q = true) :
    Calls Tryd.prog 35 #[.agg #[.bool ab, .bool di, .slice a Q.length cp]] w (LastPost ab Q w) := by
  have fin : ∀ w', Below w.heap.size w w' → LastPost ab Q w (.returned (.tuple #[.agg #[.bool false, .bool false, .slice none 0 0], .string ⟨#[]⟩, .bool false])) w' := fun w' hb => .inl ⟨h, rfl, hb⟩
  have HF := Lib.hid fin
  obtain ⟨hk, hres, hsz, hbw⟩ := boxes2 w (.bool ab) (.bool di) (.slice a Q.length cp) 57
  have HRES := Lib.hid hres
  have HBW := Lib.hid hbw
  have HR := Lib.hid hr
  have HQ := Lib.hid hq
  by_cases h0 : Q = []
  · have hn : Q.length = 0 := by rw [h0]; rfl
    obtain ⟨o0, o1, o2⟩ := box_over hres (.bool false) (.bool false) (.slice none 0 0)
    rw [hn] at o0 o1 o2 ⊢
    clear hn h0 h fin hk hres hsz hbw hr hq
    go_enter Tryd.func35, Tryd.ntmps35
    go_wp2
    refine bodyPost_ret (v := .tuple #[.agg #[.bool false, .bool false, .slice none 0 0], .string ⟨#[]⟩, .bool false]) (by simp [results, Tryd.results35, go_sem, o0, o1, o2]) rfl (HF.out _ ?_)
    exact (below_box w _).alloc (by simp) _
  · have hu : endsUp Q = true := by
      rcases h with h | h
      · exact absurd h h0
      · exact h
    have hn : ((Q.length : Int) == 0) = false := by
      cases Q with
      | nil => exact absurd rfl h0
      | cons => simp; omega
    have HU := Lib.hid hu
    have HE := Lib.hid (fun (W : World) (hb : Below w.heap.size w W) => endsUp_is ab di a cp Q W (hr.below hb) (by omega))
    have HK := Lib.hid hk
    clear h0 h fin hk hres hsz hbw hr hq hu
    go_enter Tryd.func35, Tryd.ntmps35
    go_wp2_with fail
    refine (HE.out _ HBW.out).mono ?_
    rintro e w2 ⟨rfl, b2⟩
    rw [HU.out]
    have hrow : w2.heap[w.heap.size + 1]? = some (.cells #[.bool false, .bool false, .slice none 0 0] 57 (0, 0)) := by rw [b2.block _ (Array.getElem?_eq_some_iff.1 HRES.out).1]; exact HRES.out
    obtain ⟨r0, r1, r2, g0, g1, g2, gz⟩ := kept3_of (t := 57) hrow
    obtain ⟨o0, o1, o2⟩ := box_over hrow (.bool false) (.bool false) (.slice none 0 0)
    have HB2 := Lib.hid (below_next HBW.out b2)
    clear b2 hrow
    go_wp2
    refine bodyPost_ret (v := .tuple #[.agg #[.bool false, .bool false, .slice none 0 0], .string ⟨#[]⟩, .bool false]) (by simp [results, Tryd.results35, go_sem, o0, o1, o2]) rfl (HF.out _ ?_)
    exact below_over HB2.out (by omega) _ _ _

set_option maxHeartbeats 6400000 in
theorem last_yes (ab di : Bool) (a : Option Addr) (cp : Nat) (Q : List Bs) (w : World) (hr : ReadsV w a Q.length (strsV Q)) (hcp : Q.length ≤ cp) (hq : Q.length ≤ 400) (h0 : Q ≠ []) (hu : endsUp Q = false) :
    Calls Tryd.prog 35 #[.agg #[.bool ab, .bool di, .slice a Q.length cp]] w (LastPost ab Q w) := by
  obtain ⟨hk, hres, hsz, hbw⟩ := boxes2 w (.bool ab) (.bool di) (.slice a Q.length cp) 57
  have HRES := Lib.hid hres
  have HBW := Lib.hid hbw
  have HSZ := Lib.hid hsz
  have HE := Lib.hid (fun (W : World) (hb : Below w.heap.size w W) => endsUp_is ab di a cp Q W (hr.below hb) (by omega))
  obtain ⟨D, p, hD⟩ := last_split h0
  obtain ⟨M, hM⟩ : ∃ M, D.length = M := ⟨_, rfl⟩
  have hl : Q.length = M + 1 := by rw [hD, List.length_append, hM]; rfl
  have hget : Q[M]? = some p := by rw [hD, ← hM]; simp
  obtain ⟨x, hx⟩ : ∃ x : ByteArray, x = ⟨p.toArray⟩ := ⟨_, rfl⟩
  have hxv : strV p = .string x := by rw [hx]; rfl
  obtain ⟨g, off, ha, hg, hc⟩ := hr.at (strsV_get hget)
  have hcell : w.cell? ⟨g, off + M, none⟩ = some (.string x) := by rw [hc]; exact congrArg some hxv
  have hrd : ReadsV w a M (strsV D) := by
    have h1 := hr.take (k := M) (by omega)
    have h2 : (strsV Q).take M = strsV D := by rw [hD, strsV_append]; unfold strsV; rw [List.take_left' (by rw [List.length_map, hM])]
    rwa [h2] at h1
  have HRD := Lib.hid hrd
  have HJO : Hid (∀ (W : World) (b : Nat), b < W.heap.size → W.cell? ⟨b, 0, none⟩ = some (.slice a M cp) → ReadsV W a M (strsV D) → Calls Tryd.prog 49 #[.slice (some ⟨b, 0, none⟩) 1 1] W (RowPost D W)) := by
    intro W b h1 h2 h3
    rw [← hM] at h2 h3
    exact joined_one b a cp D W h1 h2 h3 (by omega)
  have fin : ∀ (v : Value) (w' : World), OwnsV w.heap.size w' 9 v (strsV D) → Below w.heap.size w w' → LastPost ab Q w (.returned (.tuple #[.agg #[.bool ab, .bool true, v], .string x, .bool true])) w' := fun v w' h1 h2 => .inr ⟨D, p, v, hD, hu, by rw [hxv], h1, h2⟩
  have HF := Lib.hid fin
  have HU := Lib.hid hu
  have hMb : M ≤ 400 := by omega
  have hcp2 : M + 1 ≤ cp := by omega
  subst ha
  rw [hl] at hk HRES HBW HSZ HE ⊢
  have hn : ((M : Int) + 1 == 0) = false := by simp; omega
  have HK := Lib.hid hk
  have hI1 : (0 : Int) ≤ (M : Int) := by omega
  have hI2 : (M : Int) ≤ (cp : Int) := by omega
  have hI3 : (M : Int) < (M : Int) + 1 := by omega
  clear h0 hu hr hcp hq hD hM hl hget hx hxv hc hrd fin hres hsz hbw hk
  go_enter Tryd.func35, Tryd.ntmps35
  go_wp2_with fail
  refine (HE.out _ HBW.out).mono ?_
  rintro e w2 ⟨rfl, b2⟩
  rw [HU.out]
  have HB2 := Lib.hid (below_next HBW.out b2)
  have hz2 : w.heap.size + 2 ≤ w2.heap.size := by have := b2.size; rw [HSZ.out] at this; exact this
  have hrow : w2.heap[w.heap.size + 1]? = some (.cells #[.bool false, .bool false, .slice none 0 0] 57 (0, 0)) := by rw [b2.block _ (Array.getElem?_eq_some_iff.1 HRES.out).1]; exact HRES.out
  have HROW := Lib.hid hrow
  obtain ⟨c0, c1, c2, _, _, _, cz⟩ := HK.out.below b2
  have hcell2 : w2.cell? ⟨g, off + M, none⟩ = some (.string x) := (HB2.out.cell (p := ⟨g, off + M, none⟩) hg).trans hcell
  have HKS : Hid (∀ w', Below (w.heap.size + 1) w2 w' → w'.cell? ⟨w.heap.size, 0, none⟩ = some (.bool ab) ∧ w'.cell? ⟨w.heap.size, 2, none⟩ = some (.slice (some ⟨g, off, none⟩) (M + 1) cp) ∧ w'.cell? ⟨g, off + M, none⟩ = some (.string x)) := fun w' hb =>
    ⟨(hb.cell (p := ⟨w.heap.size, 0, none⟩) (Nat.lt_succ_self _)).trans c0, (hb.cell (p := ⟨w.heap.size, 2, none⟩) (Nat.lt_succ_self _)).trans c2, (hb.cell (p := ⟨g, off + M, none⟩) (by show g < w.heap.size + 1; omega)).trans hcell2⟩
  have HRD2 := Lib.hid (HRD.out.below HB2.out)
  clear b2 hrow
  go_wp2_with fail
  have H0 : Below (w.heap.size + 1) w2 w2.drew := ⟨rfl, rfl, rfl, Nat.le_refl _, fun _ _ => rfl⟩
  have H1 : Below (w.heap.size + 1) w2 ((w2.alloc (.cells #[.slice (some ⟨g, off, none⟩) M cp] 55)).drew) := by
    have := (Below.refl (w.heap.size + 1) w2).alloc (by omega) (.cells #[.slice (some ⟨g, off, none⟩) M cp] 55)
    exact ⟨this.os, this.tape, this.output, this.size, this.block⟩
  have HCL : Hid (((w2.alloc (.cells #[.slice (some ⟨g, off, none⟩) M cp] 55)).drew).cell? ⟨w2.heap.size, 0, none⟩ = some (.slice (some ⟨g, off, none⟩) M cp)) := by
    show (w2.alloc (.cells #[.slice (some ⟨g, off, none⟩) M cp] 55)).cell? ⟨w2.heap.size, 0, none⟩ = _
    unfold World.cell?
    rw [heap_alloc_new]; rfl
  have HRD3 : Hid (ReadsV ((w2.alloc (.cells #[.slice (some ⟨g, off, none⟩) M cp] 55)).drew) (some ⟨g, off, none⟩) M (strsV D)) := by
    have h1 := HRD2.out.alloc (.cells #[.slice (some ⟨g, off, none⟩) M cp] 55)
    exact ⟨h1.1, h1.2⟩
  have HGG : Hid (w2.heap.size < ((w2.alloc (.cells #[.slice (some ⟨g, off, none⟩) M cp] 55)).drew).heap.size) := by show w2.heap.size < (w2.alloc (.cells #[.slice (some ⟨g, off, none⟩) M cp] 55)).heap.size; simp
  have HRL : Hid (((w2.alloc (.cells #[.slice (some ⟨g, off, none⟩) M cp] 55)).drew).heap[w.heap.size + 1]? = some (.cells #[.bool false, .bool false, .slice none 0 0] 57 (0, 0))) := by
    show (w2.alloc (.cells #[.slice (some ⟨g, off, none⟩) M cp] 55)).heap[w.heap.size + 1]? = _
    rw [Below.heap_alloc _ _ _ (by omega)]
    exact HROW.out
  go_region_held3 (fun w' => w'.cell? ⟨w.heap.size, 0, none⟩ = some (.bool ab) ∧ w'.cell? ⟨w.heap.size, 2, none⟩ = some (.slice (some ⟨g, off, none⟩) (M + 1) cp) ∧ w'.cell? ⟨g, off + M, none⟩ = some (.string x))
    (first | exact HKS.out _ H0 | exact HKS.out _ H1 | exact HKS.out _ k5 | exact HKS.out _ (((k5.setCell (by simp) _).setCell (by simp) _).setCell (by simp) _))
    ((first
      | (go_at_call 49; refine (HJO.out _ _ HGG.out HCL.out HRD3.out).mono ?_; rintro e w5 ⟨v5, rfl, o5, b5⟩; have k5 : Below (w.heap.size + 1) w2 w5 := H1.trans (b5.mono (by have := HGG.out; omega)); obtain ⟨a5, c5, hv5, _, _, _⟩ := o5.reads; obtain ⟨n5, hn5⟩ : ∃ n5, (strsV D).length = n5 := ⟨_, rfl⟩; rw [hn5] at hv5; subst hv5; have hr5 : w5.heap[w.heap.size + 1]? = some (.cells #[.bool false, .bool false, .slice none 0 0] 57 (0, 0)) := (b5.block _ (by have := HGG.out; omega)).trans HRL.out; have HR5 := Lib.hid hr5; obtain ⟨r0, r1, r2, g0, g1, g2, gz⟩ := kept3_of (t := 57) hr5; clear hr5)))
  all_goals
    rename_i hHeld
    clear hHeld
    obtain ⟨s0, s1, s2⟩ := box_over HR5.out (.bool ab) (.bool true) (.slice a5 n5 c5)
    have HO5 := Lib.hid o5
    have HK5 := Lib.hid k5
    clear r0 r1 r2 g0 g1 g2 gz o5 k5 b5 H0 H1
    go_wp2
    refine bodyPost_ret (v := .tuple #[.agg #[.bool ab, .bool true, .slice a5 n5 c5], .string x, .bool true]) (by simp [results, Tryd.results35, go_sem, s0, s1, s2]) rfl (HF.out _ _ ?_ ?_)
    · have hbase : w.heap.size + 1 < ((w2.alloc (.cells #[.slice (some ⟨g, off, none⟩) M cp] 55)).drew).heap.size := by have := HGG.out; omega
      exact (owns_over HO5.out hbase _ _ _).less (by omega)
    · exact below_over (HB2.out.trans (HK5.out.mono (by omega))) (by omega) _ _ _
theorem last_is (ab di : Bool) (a : Option Addr) (cp : Nat) (Q : List Bs) (w : World) (hr : ReadsV w a Q.length (strsV Q)) (hcp : Q.length ≤ cp) (hq : Q.length ≤ 400) :
    Calls Tryd.prog 35 #[.agg #[.bool ab, .bool di, .slice a Q.length cp]] w (LastPost ab Q w) := by
  by_cases h : Q = [] ∨ endsUp Q = true
  · exact last_none ab di a cp Q w hr hq h
  · exact last_yes ab di a cp Q w hr hcp hq (fun e => h (.inl e)) (by cases hu : endsUp Q with | true => exact absurd (.inr hu) h | false => rfl)
end Go.Proofs.YthipeaighngpfaaDoor
