/- The document's usage table: Set, Touch. -/
import Derived.Test.YtnlbjpnhepdicaaRPut
namespace Go.Proofs.Ytnlbjpnhepdicaa
open Go.RowKit Go.Sort
set_option linter.unusedVariables false
set_option linter.unusedSimpArgs false
set_option maxRecDepth 100000

def startW (w : World) (room : Int) (s : Value) : World := (w.alloc (.cells #[.int .i64 room, s] 59)).alloc (.cells #[.int .i64 0, .slice none 0 0] 59)
theorem startW_facts (w : World) (room : Int) (s : Value) : BoxP (startW w room s) w.heap.size room s ∧ BoxP (startW w room s) (w.heap.size + 1) 0 (.slice none 0 0) ∧ Below w.heap.size w (startW w room s) ∧ (startW w room s).heap.size = w.heap.size + 2 := by
  unfold startW
  refine ⟨?_, ?_, ?_, ?_⟩
  · unfold BoxP
    rw [Below.heap_alloc _ _ _ (by simp)]
    exact heap_alloc_new w _
  · unfold BoxP
    have := heap_alloc_new (w.alloc (.cells #[.int .i64 room, s] 59)) (.cells #[.int .i64 0, .slice none 0 0] 59)
    rw [World.size_alloc] at this
    exact this
  · exact ((Below.refl _ _).alloc (Nat.le_refl _) _).alloc (by simp) _
  · simp
theorem fin_facts {W : World} {p : Nat} {R0 : Int} {v0 : Value} (h : BoxP W p R0 v0) (room : Int) (S : Value) :
    (W.cell? ⟨p, 0, none⟩ = some (.int .i64 R0) ∧ W.cell? ⟨p, 1, none⟩ = some v0 ∧ W.frozen? ⟨p, 0, none⟩ = false ∧ W.frozen? ⟨p, 1, none⟩ = false) ∧
    ((W.setCell ⟨p, 0, none⟩ (.int .i64 room)).cell? ⟨p, 0, none⟩ = some (.int .i64 room) ∧ (W.setCell ⟨p, 0, none⟩ (.int .i64 room)).cell? ⟨p, 1, none⟩ = some v0 ∧ (W.setCell ⟨p, 0, none⟩ (.int .i64 room)).frozen? ⟨p, 1, none⟩ = false) ∧
    (((W.setCell ⟨p, 0, none⟩ (.int .i64 room)).setCell ⟨p, 1, none⟩ S).cell? ⟨p, 0, none⟩ = some (.int .i64 room) ∧ ((W.setCell ⟨p, 0, none⟩ (.int .i64 room)).setCell ⟨p, 1, none⟩ S).cell? ⟨p, 1, none⟩ = some S) ∧
    W.grownBy ((W.setCell ⟨p, 0, none⟩ (.int .i64 room)).setCell ⟨p, 1, none⟩ S) (some p) := by
  obtain ⟨m0, m1, mf1, _, mf0⟩ := h.cells
  have n3 := h.set0 room
  obtain ⟨n0, n1, nf1, _, _⟩ := n3.cells
  have o3 := n3.set S
  obtain ⟨o0, o1, _, _, _⟩ := o3.cells
  exact ⟨⟨m0, m1, mf0, mf1⟩, ⟨n0, n1, nf1⟩, ⟨o0, o1⟩, grown_trans (grown_setCellP W ⟨p, 0, none⟩ (.int .i64 room)) (grown_setCellP _ ⟨p, 1, none⟩ S)⟩
/-- What an act on the document's table leaves. -/
def RStepPost (B : Nat) (w : World) (room : Int) (us : List UseD) (err : Int) (e : Ending) (w' : World) : Prop :=
  ∃ g c, e = .returned (.tuple #[.agg #[.int .i64 room, .slice (some ⟨g, 0, none⟩) us.length c], .int .i64 err]) ∧ OwnsR' B w' 46 3 (.slice (some ⟨g, 0, none⟩) us.length c) (usesV us) ∧ Below w.heap.size w w'
theorem use_cells {B : Nat} {w : World} {gd n cd : Nat} {us : List UseD} (h : OwnsR' B w 46 3 (.slice (some ⟨gd, 0, none⟩) n cd) (usesV us)) {i : Nat} {u : UseD} (hu : us[i]? = some u) :
    w.cell? ⟨gd, i * 3, none⟩ = some (.int .i64 u.live) ∧ w.cell? ⟨gd, i * 3 + 1, none⟩ = some (.int .i64 u.state) ∧ w.cell? ⟨gd, i * 3 + 2, none⟩ = some (.int .u32 u.age) := by
  have hrow := h.head.2.2 i _ (usesV_get hu)
  exact ⟨hrow 0 _ rfl, hrow 1 _ rfl, hrow 2 _ rfl⟩
theorem use_reads {B : Nat} {w : World} {gd n cd : Nat} {us : List UseD} (h : OwnsR' B w 46 3 (.slice (some ⟨gd, 0, none⟩) n cd) (usesV us)) : ReadsR w (some ⟨gd, 0, none⟩) 3 (usesV us) := by
  obtain ⟨a, c, hv, hr, _, _⟩ := h.reads
  obtain ⟨rfl, _, _⟩ := Value.slice.inj hv
  exact hr
set_option maxHeartbeats 2000000 in
theorem rset_yes {B : Nat} {w : World} {room : Int} {gd cd : Nat} {us : List UseD} (h : OwnsR' B w 46 3 (.slice (some ⟨gd, 0, none⟩) us.length cd) (usesV us)) (hB : B ≤ w.heap.size) (hlen : us.length ≤ 200) (i : Nat) (u : UseD) (hu : us[i]? = some u) (s : Int) (hs0 : 0 ≤ s) (hs1 : s ≤ 3) :
    Calls Try.prog 86 #[.agg #[.int .i64 room, .slice (some ⟨gd, 0, none⟩) us.length cd], .int .i64 i, .int .i64 s] w (RStepPost B w room (us.set i ⟨u.live, s, u.age⟩) 0) := by
  have hi := (List.getElem?_eq_some_iff.1 hu).1
  obtain ⟨n, hn⟩ : ∃ n, us.length = n := ⟨_, rfl⟩
  have HPOST : Hid (RStepPost B w room (us.set i ⟨u.live, s, u.age⟩) 0 = fun e w' => ∃ g c, e = .returned (.tuple #[.agg #[.int .i64 room, .slice (some ⟨g, 0, none⟩) n c], .int .i64 0]) ∧ OwnsR' B w' 46 3 (.slice (some ⟨g, 0, none⟩) n c) (usesV (us.set i ⟨u.live, s, u.age⟩)) ∧ Below w.heap.size w w') := by
    show _ = _; unfold RStepPost; rw [List.length_set, hn]
  rw [HPOST.out]
  have hpt := fun (x : UseD) (W : World) (hr : ReadsR W (some ⟨gd, 0, none⟩) 3 (usesV us)) => rput_is room (some ⟨gd, 0, none⟩) cd us i u x hu W hr hlen
  rw [hn] at h hi hlen hpt ⊢
  obtain ⟨q1, q2, q3, q4⟩ := startW_facts w room (.slice (some ⟨gd, 0, none⟩) n cd)
  have hq := h.below q3
  have HQ := Lib.hid hq
  have HU := Lib.hid hu
  have HN := Lib.hid hn
  have HPT := Lib.hid hpt
  have HBW := Lib.hid hB
  have Q1 := Lib.hid q1
  have Q2 := Lib.hid q2
  have Q3 := Lib.hid q3
  have Q4 := Lib.hid q4
  have hi1 : (0 : Int) ≤ (i : Int) := by omega
  have hi2 : (i : Int) < (n : Int) := by omega
  have HHAS := Lib.hid (rhas9_yes room (some ⟨gd, 0, none⟩) n cd i (startW w room (.slice (some ⟨gd, 0, none⟩) n cd)) hi)
  clear h hu hn HPOST hpt q1 q2 q3 q4 hq hB hi
  go_enter Try.func86, Try.ntmps86
  go_wp2_with fail
  refine HHAS.out.mono ?_
  rintro e w1 ⟨rfl, b1⟩
  have hb1 := Q3.out.trans (b1.mono (by rw [Q4.out]; omega))
  have y1 := Q1.out.below b1
  have y2 := Q2.out.below b1
  have yo := HQ.out.below b1
  have hsz : w.heap.size + 2 ≤ w1.heap.size := by have := b1.size; rw [Q4.out] at this; exact this
  have hbx := below_box w1 (.cells #[.int .i64 u.live, .int .i64 s, .int .u32 u.age] 46)
  have z1 := y1.below hbx
  have z2 := y2.below hbx
  have zo := yo.below hbx
  have zb := hb1.trans (hbx.mono (by omega))
  obtain ⟨k0, k1, kf, kl, kg⟩ := y1.cells
  obtain ⟨j0, j1, _, _, _⟩ := z1.cells
  obtain ⟨c0, c1, c2⟩ := use_cells yo HU.out
  have HP := Lib.hid (HPT.out ⟨u.live, s, u.age⟩ _ (use_reads zo))
  have Z2 := Lib.hid z2
  have ZB := Lib.hid zb
  have HSZ := Lib.hid hsz
  clear b1 hb1 y1 y2 yo hbx z1 z2 zo zb hsz Q1 Q2 Q3 Q4 HHAS HQ
  go_wp2_with fail
  refine HP.out.mono ?_
  rintro e w3 ⟨g3, c3, rfl, o3, b3⟩
  rw [List.length_set, HN.out] at o3 ⊢
  have hg3 := (o3.lt g3 rfl).1
  rw [World.size_alloc] at hg3
  have x2 := Z2.out.below b3
  have hsz := HSZ.out
  have hB := HBW.out
  obtain ⟨⟨m0, m1, mf0, mf1⟩, ⟨n0, n1, nf1⟩, ⟨p0, p1⟩, hg⟩ := fin_facts x2 room (.slice (some ⟨g3, 0, none⟩) n c3)
  have HO := Lib.hid ((o3.kept hg (.inr (by intro e; have e2 : g3 = w.heap.size + 1 := Option.some.inj e; omega))).less (B' := B) (by rw [World.size_alloc]; omega))
  have HBL := Lib.hid ((ZB.out.trans (b3.mono (by rw [World.size_alloc]; omega))).grown hg (by have := b3.size; rw [World.size_alloc] at this; omega) (by intro k hk; have e2 : w.heap.size + 1 = k := Option.some.inj hk; omega))
  clear o3 b3 x2 hg j0 j1 k0 k1 kf kl kg c0 c1 c2 hg3 hsz hB
  go_wp2
  refine bodyPost_ret (v := .tuple #[.agg #[.int .i64 room, .slice (some ⟨g3, 0, none⟩) n c3], .int .i64 0]) (by simp [results, Try.results86, go_sem, p0, p1]) rfl ⟨g3, c3, rfl, HO.out, HBL.out⟩
end Go.Proofs.Ytnlbjpnhepdicaa
