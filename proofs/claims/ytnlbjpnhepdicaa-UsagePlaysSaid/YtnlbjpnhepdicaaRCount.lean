/- The document's usage table: Count. -/
import Derived.Test.YtnlbjpnhepdicaaRSet
import Derived.IntWalk
namespace Go.Proofs.Ytnlbjpnhepdicaa
open Go.RowKit Go.Sort
set_option linter.unusedVariables false
set_option linter.unusedSimpArgs false
set_option maxRecDepth 100000

set_option maxHeartbeats 2000000 in
theorem rcount_yes {B : Nat} {w : World} {room : Int} {gd cd : Nat} {us : List UseD} (h : OwnsR' B w 46 3 (.slice (some ⟨gd, 0, none⟩) us.length cd) (usesV us)) (hB : B ≤ w.heap.size) (hlen : us.length ≤ 200) (i : Nat) (u : UseD) (hu : us[i]? = some u) (n' : Int) (hf1 : ¬ 65535 < n') (hf2 : ¬ n' < -65535) (hc1 : ¬ u.live + n' < 0) (hc2 : ¬ room < u.live + n') (hw : IntKind.i64.wrap (u.live + n') = u.live + n') :
    Calls Try.prog 83 #[.agg #[.int .i64 room, .slice (some ⟨gd, 0, none⟩) us.length cd], .int .i64 i, .int .i64 n'] w (RStepPost B w room (us.set i ⟨u.live + n', u.state, u.age⟩) 0) := by
  have hi := (List.getElem?_eq_some_iff.1 hu).1
  obtain ⟨n, hn⟩ : ∃ n, us.length = n := ⟨_, rfl⟩
  have HPOST : Hid (RStepPost B w room (us.set i ⟨u.live + n', u.state, u.age⟩) 0 = fun e w' => ∃ g c, e = .returned (.tuple #[.agg #[.int .i64 room, .slice (some ⟨g, 0, none⟩) n c], .int .i64 0]) ∧ OwnsR' B w' 46 3 (.slice (some ⟨g, 0, none⟩) n c) (usesV (us.set i ⟨u.live + n', u.state, u.age⟩)) ∧ Below w.heap.size w w') := by
    show _ = _; unfold RStepPost; rw [List.length_set, hn]
  rw [HPOST.out]
  have hpt := fun (x : UseD) (W : World) (hr : ReadsR W (some ⟨gd, 0, none⟩) 3 (usesV us)) => rput_is room (some ⟨gd, 0, none⟩) cd us i u x hu W hr hlen
  rw [hn] at h hi hlen hpt ⊢
  obtain ⟨q1, q2, q3, q4⟩ := startW_facts w room (.slice (some ⟨gd, 0, none⟩) n cd)
  have hq := h.below q3
  have HQ := Lib.hid hq
  have HU := Lib.hid hu
  have HN := Lib.hid hn
  have HPT := Lib.hid hpt
  have HBW := Lib.hid hB
  have Q1 := Lib.hid q1
  have Q2 := Lib.hid q2
  have Q3 := Lib.hid q3
  have Q4 := Lib.hid q4
  have hi1 : (0 : Int) ≤ (i : Int) := by omega
  have hi2 : (i : Int) < (n : Int) := by omega
  have HHAS := Lib.hid (rhas9_yes room (some ⟨gd, 0, none⟩) n cd i (startW w room (.slice (some ⟨gd, 0, none⟩) n cd)) hi)
  clear h hu hn HPOST hpt q1 q2 q3 q4 hq hB hi
  go_enter Try.func83, Try.ntmps83
  go_wp2_with fail
  refine HHAS.out.mono ?_
  rintro e w1 ⟨rfl, b1⟩
  have hb1 := Q3.out.trans (b1.mono (by rw [Q4.out]; omega))
  have y1 := Q1.out.below b1
  have y2 := Q2.out.below b1
  have yo := HQ.out.below b1
  have hsz : w.heap.size + 2 ≤ w1.heap.size := by have := b1.size; rw [Q4.out] at this; exact this
  have hbx := below_box w1 (.cells #[.int .i64 (u.live + n'), .int .i64 u.state, .int .u32 u.age] 46)
  have z1 := y1.below hbx
  have z2 := y2.below hbx
  have zo := yo.below hbx
  have zb := hb1.trans (hbx.mono (by omega))
  obtain ⟨k0, k1, kf, kl, kg⟩ := y1.cells
  obtain ⟨j0, j1, _, _, _⟩ := z1.cells
  obtain ⟨c0, c1, c2⟩ := use_cells yo HU.out
  have HP := Lib.hid (HPT.out ⟨u.live + n', u.state, u.age⟩ _ (use_reads zo))
  have Z2 := Lib.hid z2
  have ZB := Lib.hid zb
  have HSZ := Lib.hid hsz
  clear b1 hb1 y1 y2 yo hbx z1 z2 zo zb hsz Q1 Q2 Q3 Q4 HHAS HQ
  go_wp2_with fail
  refine HP.out.mono ?_
  rintro e w3 ⟨g3, c3, rfl, o3, b3⟩
  rw [List.length_set, HN.out] at o3 ⊢
  have hg3 := (o3.lt g3 rfl).1
  rw [World.size_alloc] at hg3
  have x2 := Z2.out.below b3
  have hsz := HSZ.out
  have hB := HBW.out
  obtain ⟨⟨m0, m1, mf0, mf1⟩, ⟨n0, n1, nf1⟩, ⟨p0, p1⟩, hg⟩ := fin_facts x2 room (.slice (some ⟨g3, 0, none⟩) n c3)
  have HO := Lib.hid ((o3.kept hg (.inr (by intro e; have e2 : g3 = w.heap.size + 1 := Option.some.inj e; omega))).less (B' := B) (by rw [World.size_alloc]; omega))
  have HBL := Lib.hid ((ZB.out.trans (b3.mono (by rw [World.size_alloc]; omega))).grown hg (by have := b3.size; rw [World.size_alloc] at this; omega) (by intro k hk; have e2 : w.heap.size + 1 = k := Option.some.inj hk; omega))
  clear o3 b3 x2 hg j0 j1 k0 k1 kf kl kg c0 c1 c2 hg3 hsz hB
  go_wp2
  refine bodyPost_ret (v := .tuple #[.agg #[.int .i64 room, .slice (some ⟨g3, 0, none⟩) n c3], .int .i64 0]) (by simp [results, Try.results83, go_sem, p0, p1]) rfl ⟨g3, c3, rfl, HO.out, HBL.out⟩
set_option maxHeartbeats 2000000 in
theorem rcount_out {B : Nat} {w : World} {room : Int} {gd cd : Nat} {us : List UseD} (h : OwnsR' B w 46 3 (.slice (some ⟨gd, 0, none⟩) us.length cd) (usesV us)) (hB : B ≤ w.heap.size) (sg : Int) (hsg : sg < 0 ∨ (us.length : Int) ≤ sg) (n' : Int) :
    Calls Try.prog 83 #[.agg #[.int .i64 room, .slice (some ⟨gd, 0, none⟩) us.length cd], .int .i64 sg, .int .i64 n'] w (RStepPost B w room us 1) := by
  obtain ⟨n, hn⟩ : ∃ n, us.length = n := ⟨_, rfl⟩
  have HPOST : Hid (RStepPost B w room us 1 = fun e w' => ∃ g c, e = .returned (.tuple #[.agg #[.int .i64 room, .slice (some ⟨g, 0, none⟩) n c], .int .i64 1]) ∧ OwnsR' B w' 46 3 (.slice (some ⟨g, 0, none⟩) n c) (usesV us) ∧ Below w.heap.size w w') := by
    show _ = _; unfold RStepPost; rw [hn]
  rw [HPOST.out]
  rw [hn] at h hsg ⊢
  obtain ⟨q1, q2, q3, q4⟩ := startW_facts w room (.slice (some ⟨gd, 0, none⟩) n cd)
  have HLT := Lib.hid ((h.lt gd rfl).2)
  have HQ := Lib.hid (h.below q3)
  have Q1 := Lib.hid q1
  have Q2 := Lib.hid q2
  have Q3 := Lib.hid q3
  have Q4 := Lib.hid q4
  have HHAS := Lib.hid (rhas9_no room (some ⟨gd, 0, none⟩) n cd sg (startW w room (.slice (some ⟨gd, 0, none⟩) n cd)) hsg)
  clear h hn HPOST q1 q2 q3 q4 hB hsg
  go_enter Try.func83, Try.ntmps83
  go_wp2_with fail
  refine HHAS.out.mono ?_
  rintro e w1 ⟨rfl, b1⟩
  have hb1 := Q3.out.trans (b1.mono (by rw [Q4.out]; omega))
  have y1 := Q1.out.below b1
  have y2 := Q2.out.below b1
  have yo := HQ.out.below b1
  have hsz : w.heap.size + 2 ≤ w1.heap.size := by have := b1.size; rw [Q4.out] at this; exact this
  have x2 := y2
  have zo := yo
  have zb := hb1
  obtain ⟨j0, j1, _, _, _⟩ := y1.cells
  obtain ⟨⟨m0, m1, mf0, mf1⟩, ⟨n0, n1, nf1⟩, ⟨p0, p1⟩, hg⟩ := fin_facts x2 room (.slice (some ⟨gd, 0, none⟩) n cd)
  have HO := Lib.hid (zo.kept hg (.inr (by intro e; have e2 : gd = w.heap.size + 1 := Option.some.inj e; have := HLT.out; omega)))
  have HBL := Lib.hid (zb.grown hg (by omega) (by intro k hk; have e2 : w.heap.size + 1 = k := Option.some.inj hk; omega))
  clear b1 hb1 y1 y2 yo x2 zo zb hg hsz Q1 Q2 Q3 Q4 HHAS HQ HLT
  go_wp2
  refine bodyPost_ret (v := .tuple #[.agg #[.int .i64 room, .slice (some ⟨gd, 0, none⟩) n cd], .int .i64 1]) (by simp [results, Try.results83, go_sem, p0, p1]) rfl ⟨gd, cd, rfl, HO.out, HBL.out⟩
set_option maxHeartbeats 2000000 in
theorem rcount_big {B : Nat} {w : World} {room : Int} {gd cd : Nat} {us : List UseD} (h : OwnsR' B w 46 3 (.slice (some ⟨gd, 0, none⟩) us.length cd) (usesV us)) (hB : B ≤ w.heap.size) (i : Nat) (u : UseD) (hu : us[i]? = some u) (n' : Int) (hf1 : 65535 < n') :
    Calls Try.prog 83 #[.agg #[.int .i64 room, .slice (some ⟨gd, 0, none⟩) us.length cd], .int .i64 i, .int .i64 n'] w (RStepPost B w room us 1) := by
  have hi := (List.getElem?_eq_some_iff.1 hu).1
  obtain ⟨n, hn⟩ : ∃ n, us.length = n := ⟨_, rfl⟩
  have HPOST : Hid (RStepPost B w room us 1 = fun e w' => ∃ g c, e = .returned (.tuple #[.agg #[.int .i64 room, .slice (some ⟨g, 0, none⟩) n c], .int .i64 1]) ∧ OwnsR' B w' 46 3 (.slice (some ⟨g, 0, none⟩) n c) (usesV us) ∧ Below w.heap.size w w') := by
    show _ = _; unfold RStepPost; rw [hn]
  rw [HPOST.out]
  rw [hn] at h hi ⊢
  obtain ⟨q1, q2, q3, q4⟩ := startW_facts w room (.slice (some ⟨gd, 0, none⟩) n cd)
  have HLT := Lib.hid ((h.lt gd rfl).2)
  have HQ := Lib.hid (h.below q3)
  have Q1 := Lib.hid q1
  have Q2 := Lib.hid q2
  have Q3 := Lib.hid q3
  have Q4 := Lib.hid q4
  have HU := Lib.hid hu
  have hi1 : (0 : Int) ≤ (i : Int) := by omega
  have hi2 : (i : Int) < (n : Int) := by omega
  have HHAS := Lib.hid (rhas9_yes room (some ⟨gd, 0, none⟩) n cd i (startW w room (.slice (some ⟨gd, 0, none⟩) n cd)) hi)
  clear h hn HPOST q1 q2 q3 q4 hB hi hu
  go_enter Try.func83, Try.ntmps83
  go_wp2_with fail
  refine HHAS.out.mono ?_
  rintro e w1 ⟨rfl, b1⟩
  have hb1 := Q3.out.trans (b1.mono (by rw [Q4.out]; omega))
  have y1 := Q1.out.below b1
  have y2 := Q2.out.below b1
  have yo := HQ.out.below b1
  have hsz : w.heap.size + 2 ≤ w1.heap.size := by have := b1.size; rw [Q4.out] at this; exact this
  have x2 := y2
  have zo := yo
  have zb := hb1
  obtain ⟨j0, j1, _, _, _⟩ := y1.cells
  obtain ⟨⟨m0, m1, mf0, mf1⟩, ⟨n0, n1, nf1⟩, ⟨p0, p1⟩, hg⟩ := fin_facts x2 room (.slice (some ⟨gd, 0, none⟩) n cd)
  have HO := Lib.hid (zo.kept hg (.inr (by intro e; have e2 : gd = w.heap.size + 1 := Option.some.inj e; have := HLT.out; omega)))
  have HBL := Lib.hid (zb.grown hg (by omega) (by intro k hk; have e2 : w.heap.size + 1 = k := Option.some.inj hk; omega))
  clear b1 hb1 y1 y2 yo x2 zo zb hg hsz Q1 Q2 Q3 Q4 HHAS HQ HLT
  go_wp2
  refine bodyPost_ret (v := .tuple #[.agg #[.int .i64 room, .slice (some ⟨gd, 0, none⟩) n cd], .int .i64 1]) (by simp [results, Try.results83, go_sem, p0, p1]) rfl ⟨gd, cd, rfl, HO.out, HBL.out⟩
set_option maxHeartbeats 2000000 in
theorem rcount_small {B : Nat} {w : World} {room : Int} {gd cd : Nat} {us : List UseD} (h : OwnsR' B w 46 3 (.slice (some ⟨gd, 0, none⟩) us.length cd) (usesV us)) (hB : B ≤ w.heap.size) (i : Nat) (u : UseD) (hu : us[i]? = some u) (n' : Int) (hf1 : ¬ 65535 < n') (hf2 : n' < -65535) :
    Calls Try.prog 83 #[.agg #[.int .i64 room, .slice (some ⟨gd, 0, none⟩) us.length cd], .int .i64 i, .int .i64 n'] w (RStepPost B w room us 1) := by
  have hi := (List.getElem?_eq_some_iff.1 hu).1
  obtain ⟨n, hn⟩ : ∃ n, us.length = n := ⟨_, rfl⟩
  have HPOST : Hid (RStepPost B w room us 1 = fun e w' => ∃ g c, e = .returned (.tuple #[.agg #[.int .i64 room, .slice (some ⟨g, 0, none⟩) n c], .int .i64 1]) ∧ OwnsR' B w' 46 3 (.slice (some ⟨g, 0, none⟩) n c) (usesV us) ∧ Below w.heap.size w w') := by
    show _ = _; unfold RStepPost; rw [hn]
  rw [HPOST.out]
  rw [hn] at h hi ⊢
  obtain ⟨q1, q2, q3, q4⟩ := startW_facts w room (.slice (some ⟨gd, 0, none⟩) n cd)
  have HLT := Lib.hid ((h.lt gd rfl).2)
  have HQ := Lib.hid (h.below q3)
  have Q1 := Lib.hid q1
  have Q2 := Lib.hid q2
  have Q3 := Lib.hid q3
  have Q4 := Lib.hid q4
  have HU := Lib.hid hu
  have hi1 : (0 : Int) ≤ (i : Int) := by omega
  have hi2 : (i : Int) < (n : Int) := by omega
  have HHAS := Lib.hid (rhas9_yes room (some ⟨gd, 0, none⟩) n cd i (startW w room (.slice (some ⟨gd, 0, none⟩) n cd)) hi)
  clear h hn HPOST q1 q2 q3 q4 hB hi hu
  go_enter Try.func83, Try.ntmps83
  go_wp2_with fail
  refine HHAS.out.mono ?_
  rintro e w1 ⟨rfl, b1⟩
  have hb1 := Q3.out.trans (b1.mono (by rw [Q4.out]; omega))
  have y1 := Q1.out.below b1
  have y2 := Q2.out.below b1
  have yo := HQ.out.below b1
  have hsz : w.heap.size + 2 ≤ w1.heap.size := by have := b1.size; rw [Q4.out] at this; exact this
  have x2 := y2
  have zo := yo
  have zb := hb1
  obtain ⟨j0, j1, _, _, _⟩ := y1.cells
  obtain ⟨⟨m0, m1, mf0, mf1⟩, ⟨n0, n1, nf1⟩, ⟨p0, p1⟩, hg⟩ := fin_facts x2 room (.slice (some ⟨gd, 0, none⟩) n cd)
  have HO := Lib.hid (zo.kept hg (.inr (by intro e; have e2 : gd = w.heap.size + 1 := Option.some.inj e; have := HLT.out; omega)))
  have HBL := Lib.hid (zb.grown hg (by omega) (by intro k hk; have e2 : w.heap.size + 1 = k := Option.some.inj hk; omega))
  clear b1 hb1 y1 y2 yo x2 zo zb hg hsz Q1 Q2 Q3 Q4 HHAS HQ HLT
  go_wp2
  refine bodyPost_ret (v := .tuple #[.agg #[.int .i64 room, .slice (some ⟨gd, 0, none⟩) n cd], .int .i64 1]) (by simp [results, Try.results83, go_sem, p0, p1]) rfl ⟨gd, cd, rfl, HO.out, HBL.out⟩
set_option maxHeartbeats 2000000 in
theorem rcount_less {B : Nat} {w : World} {room : Int} {gd cd : Nat} {us : List UseD} (h : OwnsR' B w 46 3 (.slice (some ⟨gd, 0, none⟩) us.length cd) (usesV us)) (hB : B ≤ w.heap.size) (i : Nat) (u : UseD) (hu : us[i]? = some u) (n' : Int) (hf1 : ¬ 65535 < n') (hf2 : ¬ n' < -65535) (hc1 : u.live + n' < 0) (hw : IntKind.i64.wrap (u.live + n') = u.live + n') :
    Calls Try.prog 83 #[.agg #[.int .i64 room, .slice (some ⟨gd, 0, none⟩) us.length cd], .int .i64 i, .int .i64 n'] w (RStepPost B w room us 1) := by
  have hi := (List.getElem?_eq_some_iff.1 hu).1
  obtain ⟨n, hn⟩ : ∃ n, us.length = n := ⟨_, rfl⟩
  have HPOST : Hid (RStepPost B w room us 1 = fun e w' => ∃ g c, e = .returned (.tuple #[.agg #[.int .i64 room, .slice (some ⟨g, 0, none⟩) n c], .int .i64 1]) ∧ OwnsR' B w' 46 3 (.slice (some ⟨g, 0, none⟩) n c) (usesV us) ∧ Below w.heap.size w w') := by
    show _ = _; unfold RStepPost; rw [hn]
  rw [HPOST.out]
  rw [hn] at h hi ⊢
  obtain ⟨q1, q2, q3, q4⟩ := startW_facts w room (.slice (some ⟨gd, 0, none⟩) n cd)
  have HLT := Lib.hid ((h.lt gd rfl).2)
  have HQ := Lib.hid (h.below q3)
  have Q1 := Lib.hid q1
  have Q2 := Lib.hid q2
  have Q3 := Lib.hid q3
  have Q4 := Lib.hid q4
  have HU := Lib.hid hu
  have hi1 : (0 : Int) ≤ (i : Int) := by omega
  have hi2 : (i : Int) < (n : Int) := by omega
  have HHAS := Lib.hid (rhas9_yes room (some ⟨gd, 0, none⟩) n cd i (startW w room (.slice (some ⟨gd, 0, none⟩) n cd)) hi)
  clear h hn HPOST q1 q2 q3 q4 hB hi hu
  go_enter Try.func83, Try.ntmps83
  go_wp2_with fail
  refine HHAS.out.mono ?_
  rintro e w1 ⟨rfl, b1⟩
  have hb1 := Q3.out.trans (b1.mono (by rw [Q4.out]; omega))
  have y1 := Q1.out.below b1
  have y2 := Q2.out.below b1
  have yo := HQ.out.below b1
  have hsz : w.heap.size + 2 ≤ w1.heap.size := by have := b1.size; rw [Q4.out] at this; exact this
  obtain ⟨c0, c1, c2⟩ := use_cells yo HU.out
  have hbx := below_box w1 (.cells #[.int .i64 (u.live + n'), .int .i64 u.state, .int .u32 u.age] 46)
  have z1 := y1.below hbx
  have x2 := y2.below hbx
  have zo := yo.below hbx
  have zb := hb1.trans (hbx.mono (by omega))
  obtain ⟨k0, k1, kf, kl, kg⟩ := y1.cells
  obtain ⟨j0, j1, _, _, _⟩ := z1.cells
  obtain ⟨⟨m0, m1, mf0, mf1⟩, ⟨n0, n1, nf1⟩, ⟨p0, p1⟩, hg⟩ := fin_facts x2 room (.slice (some ⟨gd, 0, none⟩) n cd)
  have HO := Lib.hid (zo.kept hg (.inr (by intro e; have e2 : gd = w.heap.size + 1 := Option.some.inj e; have := HLT.out; omega)))
  have HBL := Lib.hid (zb.grown hg (by rw [World.size_alloc]; omega) (by intro k hk; have e2 : w.heap.size + 1 = k := Option.some.inj hk; omega))
  clear b1 hb1 y1 y2 yo x2 zo zb hg hsz Q1 Q2 Q3 Q4 HHAS HQ HLT
  clear hbx z1
  go_wp2
  refine bodyPost_ret (v := .tuple #[.agg #[.int .i64 room, .slice (some ⟨gd, 0, none⟩) n cd], .int .i64 1]) (by simp [results, Try.results83, go_sem, p0, p1]) rfl ⟨gd, cd, rfl, HO.out, HBL.out⟩
set_option maxHeartbeats 2000000 in
theorem rcount_more {B : Nat} {w : World} {room : Int} {gd cd : Nat} {us : List UseD} (h : OwnsR' B w 46 3 (.slice (some ⟨gd, 0, none⟩) us.length cd) (usesV us)) (hB : B ≤ w.heap.size) (i : Nat) (u : UseD) (hu : us[i]? = some u) (n' : Int) (hf1 : ¬ 65535 < n') (hf2 : ¬ n' < -65535) (hc1 : ¬ u.live + n' < 0) (hc2 : room < u.live + n') (hw : IntKind.i64.wrap (u.live + n') = u.live + n') :
    Calls Try.prog 83 #[.agg #[.int .i64 room, .slice (some ⟨gd, 0, none⟩) us.length cd], .int .i64 i, .int .i64 n'] w (RStepPost B w room us 1) := by
  have hi := (List.getElem?_eq_some_iff.1 hu).1
  obtain ⟨n, hn⟩ : ∃ n, us.length = n := ⟨_, rfl⟩
  have HPOST : Hid (RStepPost B w room us 1 = fun e w' => ∃ g c, e = .returned (.tuple #[.agg #[.int .i64 room, .slice (some ⟨g, 0, none⟩) n c], .int .i64 1]) ∧ OwnsR' B w' 46 3 (.slice (some ⟨g, 0, none⟩) n c) (usesV us) ∧ Below w.heap.size w w') := by
    show _ = _; unfold RStepPost; rw [hn]
  rw [HPOST.out]
  rw [hn] at h hi ⊢
  obtain ⟨q1, q2, q3, q4⟩ := startW_facts w room (.slice (some ⟨gd, 0, none⟩) n cd)
  have HLT := Lib.hid ((h.lt gd rfl).2)
  have HQ := Lib.hid (h.below q3)
  have Q1 := Lib.hid q1
  have Q2 := Lib.hid q2
  have Q3 := Lib.hid q3
  have Q4 := Lib.hid q4
  have HU := Lib.hid hu
  have hi1 : (0 : Int) ≤ (i : Int) := by omega
  have hi2 : (i : Int) < (n : Int) := by omega
  have HHAS := Lib.hid (rhas9_yes room (some ⟨gd, 0, none⟩) n cd i (startW w room (.slice (some ⟨gd, 0, none⟩) n cd)) hi)
  clear h hn HPOST q1 q2 q3 q4 hB hi hu
  go_enter Try.func83, Try.ntmps83
  go_wp2_with fail
  refine HHAS.out.mono ?_
  rintro e w1 ⟨rfl, b1⟩
  have hb1 := Q3.out.trans (b1.mono (by rw [Q4.out]; omega))
  have y1 := Q1.out.below b1
  have y2 := Q2.out.below b1
  have yo := HQ.out.below b1
  have hsz : w.heap.size + 2 ≤ w1.heap.size := by have := b1.size; rw [Q4.out] at this; exact this
  obtain ⟨c0, c1, c2⟩ := use_cells yo HU.out
  have hbx := below_box w1 (.cells #[.int .i64 (u.live + n'), .int .i64 u.state, .int .u32 u.age] 46)
  have z1 := y1.below hbx
  have x2 := y2.below hbx
  have zo := yo.below hbx
  have zb := hb1.trans (hbx.mono (by omega))
  obtain ⟨k0, k1, kf, kl, kg⟩ := y1.cells
  obtain ⟨j0, j1, _, _, _⟩ := z1.cells
  obtain ⟨⟨m0, m1, mf0, mf1⟩, ⟨n0, n1, nf1⟩, ⟨p0, p1⟩, hg⟩ := fin_facts x2 room (.slice (some ⟨gd, 0, none⟩) n cd)
  have HO := Lib.hid (zo.kept hg (.inr (by intro e; have e2 : gd = w.heap.size + 1 := Option.some.inj e; have := HLT.out; omega)))
  have HBL := Lib.hid (zb.grown hg (by rw [World.size_alloc]; omega) (by intro k hk; have e2 : w.heap.size + 1 = k := Option.some.inj hk; omega))
  clear b1 hb1 y1 y2 yo x2 zo zb hg hsz Q1 Q2 Q3 Q4 HHAS HQ HLT
  clear hbx z1
  go_wp2
  refine bodyPost_ret (v := .tuple #[.agg #[.int .i64 room, .slice (some ⟨gd, 0, none⟩) n cd], .int .i64 1]) (by simp [results, Try.results83, go_sem, p0, p1]) rfl ⟨gd, cd, rfl, HO.out, HBL.out⟩
end Go.Proofs.Ytnlbjpnhepdicaa
