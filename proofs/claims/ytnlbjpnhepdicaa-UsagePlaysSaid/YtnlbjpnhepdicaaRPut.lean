/- The document's usage table: has, put. -/
import Derived.Test.YtnlbjpnhepdicaaRTab
import Derived.Test.YtnlbjpnhepdicaaLoad9
import Derived.Deep.DeepCutAuto
namespace Go.Proofs.Ytnlbjpnhepdicaa
open Go.RowKit Go.Sort
set_option linter.unusedVariables false
set_option linter.unusedSimpArgs false
set_option maxRecDepth 100000

theorem rhas9_yes (room : Int) (a : Option Addr) (n cap i : Nat) (w : World) (hi : i < n) :
    Calls Try.prog 140 #[.agg #[.int .i64 room, .slice a n cap], .int .i64 i] w fun e w' => e = .returned (.bool true) ∧ Below w.heap.size w w' := by
  have h1 : decide ((0 : Int) ≤ (i : Int)) = true := by simp
  have h2 : decide ((i : Int) < (n : Int)) = true := by simp; omega
  go_enter Try.func140, Try.ntmps140
  go_wp2
  go_ret
  exact ⟨rfl, below_box _ _⟩
theorem rhas9_no (room : Int) (a : Option Addr) (n cap : Nat) (s : Int) (w : World) (hs : s < 0 ∨ (n : Int) ≤ s) :
    Calls Try.prog 140 #[.agg #[.int .i64 room, .slice a n cap], .int .i64 s] w fun e w' => e = .returned (.bool false) ∧ Below w.heap.size w w' := by
  by_cases h0 : s < 0
  · have h1 : ¬ (0 : Int) ≤ s := by omega
    clear hs
    go_enter Try.func140, Try.ntmps140
    go_wp2
    go_ret
    exact ⟨rfl, below_box _ _⟩
  · have h1 : (0 : Int) ≤ s := by omega
    have h2 : ¬ s < (n : Int) := by omega
    clear hs h0
    go_enter Try.func140, Try.ntmps140
    go_wp2
    go_ret
    exact ⟨rfl, below_box _ _⟩
theorem ruse_store {B : Nat} {w : World} {g n cap : Nat} {us : List UseD} {i j : Nat} {u u' : UseD} (h : OwnsR' B w 46 3 (.slice (some ⟨g, 0, none⟩) n cap) (usesV us)) (hn : us.length = n) (hu : us[i]? = some u) (hj : j < 3) (x : Value) (hx : (useV u).set j x = useV u') :
    OwnsR' B (w.setCell ⟨g, i * 3 + j, none⟩ x) 46 3 (.slice (some ⟨g, 0, none⟩) n cap) (usesV (us.set i u')) ∧ w.grownBy (w.setCell ⟨g, i * 3 + j, none⟩ x) (some g) := by
  have hs := h.stored (by rw [usesV_length, hn]) (usesV_get hu) hj x
  have e : (usesV us).set i ((useV u).set j x) = usesV (us.set i u') := by rw [hx]; unfold usesV; rw [List.map_set]
  rw [e] at hs
  exact hs
theorem ruse_put {B : Nat} {w : World} {g n cap : Nat} {us : List UseD} {i : Nat} {u u' : UseD} (h : OwnsR' B w 46 3 (.slice (some ⟨g, 0, none⟩) n cap) (usesV us)) (hn : us.length = n) (hu : us[i]? = some u) :
    OwnsR' B (put3 w g i u') 46 3 (.slice (some ⟨g, 0, none⟩) n cap) (usesV (us.set i u')) ∧ w.grownBy (put3 w g i u') (some g) := by
  have hi := (List.getElem?_eq_some_iff.1 hu).1
  have s1 := ruse_store (j := 0) h hn hu (by decide) (.int .i64 u'.live) (u' := ⟨u'.live, u.state, u.age⟩) rfl
  have s2 := ruse_store (j := 1) s1.1 (by rw [List.length_set, hn]) (u := ⟨u'.live, u.state, u.age⟩) (i := i) (by rw [List.getElem?_set_self hi]) (by decide) (.int .i64 u'.state) (u' := ⟨u'.live, u'.state, u.age⟩) rfl
  have s3 := ruse_store (j := 2) s2.1 (by rw [List.length_set, List.length_set, hn]) (u := ⟨u'.live, u'.state, u.age⟩) (i := i) (by rw [List.getElem?_set_self (by rw [List.length_set]; exact hi)]) (by decide) (.int .u32 u'.age) (u' := u') rfl
  rw [List.set_set, List.set_set] at s3
  exact ⟨s3.1, grown_trans (grown_trans s1.2 s2.2) s3.2⟩
def BoxP (w : World) (p : Nat) (R : Int) (v : Value) : Prop := w.heap[p]? = some (.cells #[.int .i64 R, v] 59 (0, 0))
theorem BoxP.cells {w : World} {p : Nat} {R : Int} {v : Value} (h : BoxP w p R v) : w.cell? ⟨p, 0, none⟩ = some (.int .i64 R) ∧ w.cell? ⟨p, 1, none⟩ = some v ∧ w.frozen? ⟨p, 1, none⟩ = false ∧ p < w.heap.size ∧ w.frozen? ⟨p, 0, none⟩ = false := by
  unfold BoxP at h
  refine ⟨?_, ?_, frozen_of_row _ _ _ _ _ h, (Array.getElem?_eq_some_iff.1 h).1, frozen_of_row _ _ _ _ _ h⟩ <;> (unfold World.cell?; rw [h]; rfl)
theorem BoxP.below {w w' : World} {p : Nat} {R : Int} {v : Value} (h : BoxP w p R v) (b : Below w.heap.size w w') : BoxP w' p R v := (b.block p h.cells.2.2.2.1).trans h
theorem BoxP.kept {w w' : World} {p : Nat} {R : Int} {v : Value} (h : BoxP w p R v) {row : Option Nat} (hg : w.grownBy w' row) (hne : some p ≠ row) : BoxP w' p R v := (hg.block p h.cells.2.2.2.1 hne).trans h
theorem BoxP.set {w : World} {p : Nat} {R : Int} {v : Value} (h : BoxP w p R v) (v' : Value) : BoxP (w.setCell ⟨p, 1, none⟩ v') p R v' := by
  have := heap_setCell_same w p 1 _ _ v' h
  unfold BoxP
  rw [this]
  rfl
theorem BoxP.set0 {w : World} {p : Nat} {R : Int} {v : Value} (h : BoxP w p R v) (R' : Int) : BoxP (w.setCell ⟨p, 0, none⟩ (.int .i64 R')) p R' v := by
  have := heap_setCell_same w p 0 _ _ (.int .i64 R') h
  unfold BoxP
  rw [this]
  rfl
theorem grown_setCellP (w : World) (a : Addr) (v : Value) : w.grownBy (w.setCell a v) (some a.block) := by
  exact ⟨rfl, rfl, rfl, by simp [World.setCell], fun k hk hne => Below.heap_setCell _ _ _ _ (fun e => hne (by rw [e]))⟩
def BoxU (w : World) (p : Nat) (x : UseD) (e : TypeId) : Prop := w.heap[p]? = some (.cells #[.int .i64 x.live, .int .i64 x.state, .int .u32 x.age] e (0, 0))
theorem BoxU.cells {w : World} {p : Nat} {x : UseD} {e : TypeId} (h : BoxU w p x e) : w.cell? ⟨p, 0, none⟩ = some (.int .i64 x.live) ∧ w.cell? ⟨p, 1, none⟩ = some (.int .i64 x.state) ∧ w.cell? ⟨p, 2, none⟩ = some (.int .u32 x.age) ∧ p < w.heap.size ∧ ∀ j, w.frozen? ⟨p, j, none⟩ = false := by
  unfold BoxU at h
  refine ⟨?_, ?_, ?_, (Array.getElem?_eq_some_iff.1 h).1, fun j => frozen_of_row _ _ _ _ _ h⟩ <;> (unfold World.cell?; rw [h]; rfl)
theorem BoxU.kept {w w' : World} {p : Nat} {x : UseD} {e : TypeId} (h : BoxU w p x e) {row : Option Nat} (hg : w.grownBy w' row) (hne : some p ≠ row) : BoxU w' p x e := (hg.block p h.cells.2.2.2.1 hne).trans h
theorem BoxU.below {w w' : World} {p : Nat} {x : UseD} {e : TypeId} (h : BoxU w p x e) (b : Below w.heap.size w w') : BoxU w' p x e := (b.block p h.cells.2.2.2.1).trans h
def putW (w : World) (room : Int) (s : Value) (x : UseD) : World :=
  (((w.alloc (.cells #[.int .i64 room, s] 59)).alloc (.cells #[.int .i64 x.live, .int .i64 x.state, .int .u32 x.age] 46)).alloc (.cells #[.int .i64 0, .slice none 0 0] 59)).alloc (.cells #[] 46)
theorem putW_facts (w : World) (room : Int) (s : Value) (x : UseD) : OwnsR' (w.heap.size + 3) (putW w room s x) 46 3 (.slice (some ⟨w.heap.size + 1 + 1 + 1, 0, none⟩) 0 0) [] ∧ BoxP (putW w room s x) w.heap.size room s ∧ BoxU (putW w room s x) (w.heap.size + 1) x 46 ∧ BoxP (putW w room s x) (w.heap.size + 1 + 1) 0 (.slice none 0 0) ∧ Below w.heap.size w (putW w room s x) ∧ (putW w room s x).heap.size = w.heap.size + 4 := by
  unfold putW
  refine ⟨?_, ?_, ?_, ?_, ?_, ?_⟩
  · have h := OwnsR'.new (B := w.heap.size + 3) (w := ((w.alloc (.cells #[.int .i64 room, s] 59)).alloc (.cells #[.int .i64 x.live, .int .i64 x.state, .int .u32 x.age] 46)).alloc (.cells #[.int .i64 0, .slice none 0 0] 59)) (e := 46) (k := 3) (l := []) (by simp) (by simp) (by simp) (cs := #[]) rfl
    rw [World.size_alloc, World.size_alloc, World.size_alloc] at h
    exact h
  · unfold BoxP
    rw [Below.heap_alloc _ _ _ (by simp <;> omega), Below.heap_alloc _ _ _ (by simp <;> omega), Below.heap_alloc _ _ _ (by simp)]
    exact heap_alloc_new w _
  · unfold BoxU
    rw [Below.heap_alloc _ _ _ (by simp <;> omega), Below.heap_alloc _ _ _ (by simp)]
    have := heap_alloc_new (w.alloc (.cells #[.int .i64 room, s] 59)) (.cells #[.int .i64 x.live, .int .i64 x.state, .int .u32 x.age] 46)
    rw [World.size_alloc] at this
    exact this
  · unfold BoxP
    rw [Below.heap_alloc _ _ _ (by simp)]
    have := heap_alloc_new ((w.alloc (.cells #[.int .i64 room, s] 59)).alloc (.cells #[.int .i64 x.live, .int .i64 x.state, .int .u32 x.age] 46)) (.cells #[.int .i64 0, .slice none 0 0] 59)
    rw [World.size_alloc, World.size_alloc] at this
    exact this
  · exact ((((Below.refl _ _).alloc (Nat.le_refl _) _).alloc (by simp) _).alloc (by simp <;> omega) _).alloc (by simp <;> omega) _
  · simp
theorem owns_some {B : Nat} {w : World} {e : TypeId} {k n c : Nat} {a : Option Addr} {l : List (List Value)} (h : OwnsR' B w e k (.slice a n c) l) (hl : l ≠ []) : ∃ g, a = some ⟨g, 0, none⟩ := by
  obtain ⟨_, h1, ⟨e, h2⟩ | ⟨g, cap, cur, e, _⟩⟩ := h
  · exact absurd (List.length_eq_zero_iff.1 h2) hl
  · exact ⟨g, (Value.slice.inj e).1⟩
/-- What a call that hands a new table back leaves. -/
def RPutPost (w : World) (room : Int) (us : List UseD) (e : Ending) (w' : World) : Prop := ∃ g c, e = .returned (.agg #[.int .i64 room, .slice (some ⟨g, 0, none⟩) us.length c]) ∧ OwnsR' w.heap.size w' 46 3 (.slice (some ⟨g, 0, none⟩) us.length c) (usesV us) ∧ Below w.heap.size w w'
set_option maxHeartbeats 2000000 in
theorem rput_is (room : Int) (a : Option Addr) (cap : Nat) (us : List UseD) (i : Nat) (u x : UseD) (hu : us[i]? = some u) (w : World) (hr : ReadsR w a 3 (usesV us)) (hlen : us.length ≤ 200) :
    Calls Try.prog 141 #[.agg #[.int .i64 room, .slice a us.length cap], .int .i64 i, .agg #[.int .i64 x.live, .int .i64 x.state, .int .u32 x.age]] w (RPutPost w room (us.set i x)) := by
  have HR := Lib.hid hr
  have HU := Lib.hid hu
  have HONE := Lib.hid (uses_one us)
  have hll := usesV_length us
  have HPOST : Hid (RPutPost w room (us.set i x) = fun e w' => ∃ g c, e = .returned (.agg #[.int .i64 room, .slice (some ⟨g, 0, none⟩) us.length c]) ∧ OwnsR' w.heap.size w' 46 3 (.slice (some ⟨g, 0, none⟩) us.length c) (usesV (us.set i x)) ∧ Below w.heap.size w w') := by
    show _ = _; unfold RPutPost; rw [List.length_set]
  rw [HPOST.out]
  rw [← hll] at hlen ⊢
  obtain ⟨l, hl⟩ : ∃ l, usesV us = l := ⟨_, rfl⟩
  have HLE := Lib.hid hl
  have HLL := Lib.hid hll
  rw [hl] at HR HONE hlen ⊢
  clear hr hu HPOST hl hll
  go_enter Try.func141, Try.ntmps141
  obtain ⟨q1, q2, q3, q4, q5, q6⟩ := putW_facts w room (.slice a l.length cap) x
  have hRW := HR.out.below q5
  have Q1 := Lib.hid q1
  have Q2 := Lib.hid q2
  have Q3 := Lib.hid q3
  have Q4 := Lib.hid q4
  have Q5 := Lib.hid q5
  have Q6 := Lib.hid q6
  have HRW := Lib.hid hRW
  clear q1 q2 q3 q4 q5 q6 hRW
  have hb1 : ([] : List (List Value)).length + l.length = l.length := by simp
  have HB1 := Lib.hid hb1
  clear hb1
  go_upto_region 2 with (at_builtin; refine wpList_append_rows' rfl (.tmp 7) (.tmp 9) 43 rfl (w.heap.size + 3) 46 (.agg #[.int .i64 0, .int .i64 0, .int .u32 0]) 3 24 Try.underlying43 info_ruse rfl (by decide) (.slice (some ⟨w.heap.size + 1 + 1 + 1, 0, none⟩) 0 0) [] rfl Q1.out a cap l rfl HRW.out HONE.out (by rw [HB1.out]; omega) (by rw [HB1.out]; unfold maxLen; omega) (show w.heap.size + 3 ≤ (putW w room (.slice a l.length cap) x).heap.size by rw [Q6.out]; omega) ?_; intro v9 w9 ho9 hg9; have x2 := Q2.out.kept hg9 (by intro e; have e2 : w.heap.size = w.heap.size + 1 + 1 + 1 := Option.some.inj e; omega); obtain ⟨k0, k1, kf, kl, _⟩ := x2.cells; obtain ⟨a9, c9, rfl, _, _, _⟩ := ho9.reads)
  have hl0 : l ≠ [] := by
    intro e
    have h1 := HLE.out
    rw [e] at h1
    have h2 := usesV_length us
    rw [h1] at h2
    have h3 := (List.getElem?_eq_some_iff.1 HU.out).1
    simp at h2
    omega
  have hg : (putW w room (.slice a l.length cap) x).grownBy w9 (some (w.heap.size + 1 + 1 + 1)) := hg9
  have ho : OwnsR' (w.heap.size + 3) w9 46 3 (.slice a9 l.length c9) l := ho9
  obtain ⟨gd, rfl⟩ := owns_some ho hl0
  have hgd := (ho.lt gd rfl).1
  have y3 := Q3.out.kept hg (by intro e; have e2 : w.heap.size + 1 = w.heap.size + 1 + 1 + 1 := Option.some.inj e; omega)
  have y4 := Q4.out.kept hg (by intro e; have e2 : w.heap.size + 1 + 1 = w.heap.size + 1 + 1 + 1 := Option.some.inj e; omega)
  have hB9 : Below w.heap.size w w9 := Q5.out.grown hg (by rw [Q6.out]; omega) (by intro k hk; have e2 : w.heap.size + 1 + 1 + 1 = k := Option.some.inj hk; omega)
  have g3 := grown_setCellP w9 ⟨w.heap.size, 1, none⟩ (.slice (some ⟨gd, 0, none⟩) l.length c9)
  have z1 := x2.set (.slice (some ⟨gd, 0, none⟩) l.length c9)
  have z2 := y3.kept g3 (by intro e; have e2 : w.heap.size + 1 = w.heap.size := Option.some.inj e; omega)
  have z3 := y4.kept g3 (by intro e; have e2 : w.heap.size + 1 + 1 = w.heap.size := Option.some.inj e; omega)
  have zo := ho.kept g3 (.inr (by intro e; have e2 : gd = w.heap.size := Option.some.inj e; omega))
  have zB := hB9.setCell (p := ⟨w.heap.size, 1, none⟩) (Nat.le_refl _) (.slice (some ⟨gd, 0, none⟩) l.length c9)
  clear x2 k0 k1 kf kl ho9 hg9 hg ho y3 y4 hB9 g3 Q1 Q2 Q3 Q4 Q5 Q6 HRW HR hl0
  obtain ⟨W3, hW3⟩ : ∃ W3, w9.setCell ⟨w.heap.size, 1, none⟩ (.slice (some ⟨gd, 0, none⟩) l.length c9) = W3 := ⟨_, rfl⟩
  rw [hW3] at z1 z2 z3 zo zB ⊢
  clear hW3
  replace zo : OwnsR' (w.heap.size + 3) W3 46 3 (.slice (some ⟨gd, 0, none⟩) l.length c9) (usesV us) := by rw [HLE.out]; exact zo
  have hlu : l.length = us.length := by rw [← HLE.out]; exact HLL.out
  have hp := ruse_put (u' := x) zo hlu.symm HU.out
  have v1 := z1.kept hp.2 (by intro e; have e2 : w.heap.size = gd := Option.some.inj e; omega)
  have v3 := z3.kept hp.2 (by intro e; have e2 : w.heap.size + 1 + 1 = gd := Option.some.inj e; omega)
  have vB : Below w.heap.size w (put3 W3 gd i x) := zB.grown hp.2 zB.size (by intro k hk; have e2 : gd = k := Option.some.inj hk; omega)
  have hrow := zo.head.2.2 i _ (usesV_get HU.out)
  have r0 : W3.cell? ⟨gd, i * 3, none⟩ = some (.int .i64 u.live) := hrow 0 _ rfl
  have r1 : W3.cell? ⟨gd, i * 3 + 1, none⟩ = some (.int .i64 u.state) := hrow 1 _ rfl
  have r2 : W3.cell? ⟨gd, i * 3 + 2, none⟩ = some (.int .u32 u.age) := hrow 2 _ rfl
  have hf := fun j => zo.frozen (by rw [usesV_length, hlu]) j
  have f0 := hf (i * 3)
  have f1 := hf (i * 3 + 1)
  have f2 := hf (i * 3 + 2)
  obtain ⟨k0, k1, kf, kl, kg⟩ := z1.cells
  obtain ⟨b0, b1, b2, _, _⟩ := z2.cells
  have hi := (List.getElem?_eq_some_iff.1 HU.out).1
  have hi1 : (0 : Int) ≤ (i : Int) := by omega
  have hi2 : (i : Int) < (l.length : Int) := by omega
  obtain ⟨W4, hW4⟩ : ∃ W4, put3 W3 gd i x = W4 := ⟨_, rfl⟩
  rw [hW4] at hp v1 v3 vB
  have HP := Lib.hid hp.1
  have V1 := Lib.hid v1
  have V3 := Lib.hid v3
  have VB := Lib.hid vB
  simp only [put3] at hW4
  clear hp v1 v3 vB hrow hf z1 z2 z3 zo zB hi
  have HLU := Lib.hid hlu
  clear hlu
  go_upto_region 3 with fail
  clear hW4 k0 k1 kf kl kg b0 b1 b2 r0 r1 r2 f0 f1 f2
  obtain ⟨k0, k1, _, _, _⟩ := V1.out.cells
  obtain ⟨m0, m1, mf1, _, mf0⟩ := V3.out.cells
  have n3 := V3.out.set0 room
  obtain ⟨n0, n1, nf1, _, _⟩ := n3.cells
  have o3 := n3.set (.slice (some ⟨gd, 0, none⟩) l.length c9)
  obtain ⟨o0, o1, _, _, _⟩ := o3.cells
  have g5 := grown_setCellP W4 ⟨w.heap.size + 1 + 1, 0, none⟩ (.int .i64 room)
  have g6 := grown_setCellP (W4.setCell ⟨w.heap.size + 1 + 1, 0, none⟩ (.int .i64 room)) ⟨w.heap.size + 1 + 1, 1, none⟩ (.slice (some ⟨gd, 0, none⟩) l.length c9)
  have HE1 := Lib.hid ((HP.out.kept g5 (.inr (by intro e; have e2 : gd = w.heap.size + 1 + 1 := Option.some.inj e; omega))).kept g6 (.inr (by intro e; have e2 : gd = w.heap.size + 1 + 1 := Option.some.inj e; omega)))
  have HE2 := Lib.hid ((VB.out.setCell (p := ⟨w.heap.size + 1 + 1, 0, none⟩) (by show w.heap.size ≤ w.heap.size + 1 + 1; omega) (.int .i64 room)).setCell (p := ⟨w.heap.size + 1 + 1, 1, none⟩) (by show w.heap.size ≤ w.heap.size + 1 + 1; omega) (.slice (some ⟨gd, 0, none⟩) l.length c9))
  clear n3 o3 g5 g6
  go_wp2
  refine bodyPost_ret (v := .agg #[.int .i64 room, .slice (some ⟨gd, 0, none⟩) l.length c9]) (by simp [results, Try.results141, go_sem, o0, o1]) rfl ⟨gd, c9, rfl, HE1.out.less (by omega), HE2.out⟩
end Go.Proofs.Ytnlbjpnhepdicaa
