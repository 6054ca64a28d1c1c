/- The law's 'do' of UsagePlays: Release. -/
import Derived.Test.YtnlbjpnhepdicaaDo9
import Derived.Deep.RegionWith
namespace Go.Proofs.Ytnlbjpnhepdicaa
open Go.RowKit Go.Sort
set_option linter.unusedVariables false
set_option linter.unusedSimpArgs false
set_option maxRecDepth 100000

/-- What the last store of 'do' finds and leaves, in every world behind. -/
theorem do_fin {B : Nat} {w W5 : World} {g gs : Nat} {room : Int} {us : List UseD} {n g3 c3 p5 p2 : Nat} (hT : IsTab B W5 g gs room us) (hO : OwnsR' B W5 46 3 (.slice (some ⟨g3, 0, none⟩) n c3) (usesV us)) (hG : w.grownBy W5 (some gs)) (h5 : BoxP W5 p5 room (.slice (some ⟨g3, 0, none⟩) n c3)) (h2 : BoxP W5 p2 0 (.slice none 0 0)) (hp2 : w.heap.size ≤ p2) (hg : g ≠ p2) (hgs : gs ≠ p2) (W : World) (hW : Below W5.heap.size W5 W) :
    (W.cell? ⟨p5, 0, none⟩ = some (.int .i64 room) ∧ W.cell? ⟨p5, 1, none⟩ = some (.slice (some ⟨g3, 0, none⟩) n c3)) ∧
    (W.cell? ⟨p2, 0, none⟩ = some (.int .i64 0) ∧ W.cell? ⟨p2, 1, none⟩ = some (.slice none 0 0) ∧ W.frozen? ⟨p2, 0, none⟩ = false ∧ W.frozen? ⟨p2, 1, none⟩ = false) ∧
    ((W.setCell ⟨p2, 0, none⟩ (.int .i64 room)).cell? ⟨p2, 0, none⟩ = some (.int .i64 room) ∧ (W.setCell ⟨p2, 0, none⟩ (.int .i64 room)).cell? ⟨p2, 1, none⟩ = some (.slice none 0 0) ∧ (W.setCell ⟨p2, 0, none⟩ (.int .i64 room)).frozen? ⟨p2, 1, none⟩ = false) ∧
    (((W.setCell ⟨p2, 0, none⟩ (.int .i64 room)).setCell ⟨p2, 1, none⟩ (.slice (some ⟨g3, 0, none⟩) n c3)).cell? ⟨p2, 0, none⟩ = some (.int .i64 room) ∧ ((W.setCell ⟨p2, 0, none⟩ (.int .i64 room)).setCell ⟨p2, 1, none⟩ (.slice (some ⟨g3, 0, none⟩) n c3)).cell? ⟨p2, 1, none⟩ = some (.slice (some ⟨g3, 0, none⟩) n c3)) ∧
    Hid (IsTab B ((W.setCell ⟨p2, 0, none⟩ (.int .i64 room)).setCell ⟨p2, 1, none⟩ (.slice (some ⟨g3, 0, none⟩) n c3)) g gs room us ∧ OwnsR' B ((W.setCell ⟨p2, 0, none⟩ (.int .i64 room)).setCell ⟨p2, 1, none⟩ (.slice (some ⟨g3, 0, none⟩) n c3)) 46 3 (.slice (some ⟨g3, 0, none⟩) n c3) (usesV us) ∧ w.grownBy ((W.setCell ⟨p2, 0, none⟩ (.int .i64 room)).setCell ⟨p2, 1, none⟩ (.slice (some ⟨g3, 0, none⟩) n c3)) (some gs)) := by
  obtain ⟨a0, a1, _, _, _⟩ := (h5.below hW).cells
  have z2 := h2.below hW
  obtain ⟨c1, c2, c3', c4⟩ := fin_facts z2 room (.slice (some ⟨g3, 0, none⟩) n c3)
  have hx3 : g3 ≠ p2 := by
    intro e
    have hne := ((hO.below hW).apart (g := p2) z2 (by decide))
    exact hne (by rw [← e]; rfl)
  exact ⟨⟨a0, a1⟩, c1, c2, c3', Lib.hid ⟨tab_keptP (hT.below hW) c4 hg hgs, (hO.below hW).kept c4 (.inr (by intro e; have e2 : g3 = p2 := Option.some.inj e; exact hx3 e2)), grown_ownP (grown_andP hG hW) c4 hp2⟩⟩
set_option maxHeartbeats 4000000 in
theorem do_rel {B : Nat} {w : World} {g gs : Nat} {room : Int} {us : List UseD} (h : IsTab B w g gs room us) {gd cd n : Nat} (hn : us.length = n) (hd : OwnsR' B w 46 3 (.slice (some ⟨gd, 0, none⟩) n cd) (usesV us)) (hB : B ≤ w.heap.size) (x : ActD) (hk : x.kind = 3) (ht0 : 0 ≤ x.time) (ht1 : x.time < 4294967296) :
    Calls Try.prog 28 #[.pointer (some ⟨g, 0, none⟩), .agg #[.int .i64 room, .slice (some ⟨gd, 0, none⟩) n cd], .agg #[.int .i64 x.kind, .int .i64 x.seg, .int .i64 x.n, .int .u32 x.time]] w (DoPost B w g gs room n) := by
  obtain ⟨l1, l2⟩ := tab_lt h
  have hlen := h.2.2.2.2.2.2.1
  obtain ⟨q1, qa, q2, qb, qs⟩ := doW_facts w room (.slice (some ⟨gd, 0, none⟩) n cd) x
  have h0 := h.below qb
  have hd0 := hd.below qb
  have hc1 := trel_is h0
  have hl1 : (wipe us (idleL us)).length = n := by rw [wipe_length, hn]
  have hil : (idleL us).length ≤ 100000 := Nat.le_trans (placesL_length _ _ _) (by omega)
  have hc2 := fun (W : World) (hW : OwnsR' B W 46 3 (.slice (some ⟨gd, 0, none⟩) us.length cd) (usesV us)) (hBW : B ≤ W.heap.size) => rrelease_is (room := room) hW hBW hlen
  rw [hn] at hc2
  have hsame := ints_same (idleL us)
  obtain ⟨us1, hu1⟩ : ∃ us1, wipe us (idleL us) = us1 := ⟨_, rfl⟩
  obtain ⟨M, hM⟩ : ∃ M, idleL us = M := ⟨_, rfl⟩
  rw [hu1, hM] at hc1 hc2
  rw [hM] at hil hsame
  rw [hu1] at hl1
  obtain ⟨mm, hmm⟩ : ∃ mm, M.length = mm := ⟨_, rfl⟩
  have HMM := Lib.hid hmm
  rw [hmm] at hsame hil
  have HSAME := Lib.hid hsame
  have HIL := Lib.hid hil
  have HL1 := Lib.hid hl1
  have HC1 := Lib.hid hc1
  have HC2 := Lib.hid hc2
  have Q1 := Lib.hid q1
  have QA := Lib.hid qa
  have Q2 := Lib.hid q2
  have QB := Lib.hid qb
  have QS := Lib.hid qs
  have HT := Lib.hid h0
  have HD := Lib.hid hd0
  have HLT := Lib.hid (And.intro l1 (And.intro l2 (hd.lt gd rfl).2))
  have HB := Lib.hid hB
  have t0 : (x.kind == 0) = false := by rw [hk]; rfl
  have t1 : (x.kind == 1) = false := by rw [hk]; rfl
  have t2 : (x.kind == 2) = false := by rw [hk]; rfl
  have t3 : (x.kind == 3) = true := by rw [hk]; rfl
  clear hl1 hc1 hc2 q1 qa q2 qb qs h0 hd0 h hd hn l1 l2 hB hk hlen hu1 hM hmm hsame hil
  go_enter Try.func28, Try.ntmps28
  go_wp2_with fail
  refine HC1.out.mono ?_
  rintro e w1 ⟨aP, cP, rfl, hrP, hcP, t1', g1⟩
  rw [HMM.out] at hrP hcP ⊢
  have hlt := HLT.out
  have y1 := Q1.out.kept g1 (by intro e; have e2 : w.heap.size = gs := Option.some.inj e; omega)
  have y2 := Q2.out.kept g1 (by intro e; have e2 : w.heap.size + 1 + 1 = gs := Option.some.inj e; omega)
  have yd := HD.out.kept g1 (apartRR HD.out HT.out.2.1 (by decide))
  have hsz : w.heap.size + 3 ≤ w1.heap.size := by have h1 := g1.size; have h2 := QS.out; omega
  have hB1 : B ≤ w1.heap.size := by have := HB.out; omega
  obtain ⟨k0, k1, _, _, _⟩ := y1.cells
  have HG1 := Lib.hid (grown_below9 QB.out g1)
  have T1 := Lib.hid t1'
  have RP := Lib.hid hrP
  have Y2 := Lib.hid y2
  have YD := Lib.hid yd
  have HSZ := Lib.hid hsz
  have HB1 := Lib.hid hB1
  clear y1 y2 yd hsz hB1 t1' g1 hlt hrP Q1 QA Q2 QB QS HD HT HC1
  go_wp2_with fail
  refine (HC2.out _ YD.out HB1.out).mono ?_
  rintro e w3 ⟨g3, c3, aD, cD, rfl, o3, hrD, b3⟩
  rw [HL1.out] at o3 ⊢
  rw [HMM.out] at hrD ⊢
  have hbx := below_box w3 (.cells #[.int .i64 room, .slice (some ⟨g3, 0, none⟩) n c3] 59)
  have hnew := heap_alloc_new w3 (.cells #[.int .i64 room, .slice (some ⟨g3, 0, none⟩) n c3] 59)
  have Z2 := Lib.hid ((Y2.out.below b3).below hbx)
  have ZT := Lib.hid ((T1.out.below b3).below hbx)
  have ZO := Lib.hid (o3.below hbx)
  have ZG := Lib.hid (grown_andP (grown_andP HG1.out b3) hbx)
  have hra := (RP.out.below b3).below hbx
  have hrb := hrD.below hbx
  have z5 : BoxP (w3.alloc (.cells #[.int .i64 room, .slice (some ⟨g3, 0, none⟩) n c3] 59)) w3.heap.size room (.slice (some ⟨g3, 0, none⟩) n c3) := hnew
  have hsz3 : w.heap.size + 3 ≤ w3.heap.size := by have := b3.size; have := HSZ.out; omega
  obtain ⟨W5, hW5⟩ : ∃ W5, w3.alloc (.cells #[.int .i64 room, .slice (some ⟨g3, 0, none⟩) n c3] 59) = W5 := ⟨_, rfl⟩
  rw [hW5] at Z2 ZT ZO ZG z5 hra hrb
  have hlt := HLT.out
  have HI := Lib.hid (fun (W : World) (hW : Below W5.heap.size W5 W) => HSAME.out aP aD cP cD W (hra.below hW) (hrb.below hW) HIL.out)
  have HFIN := Lib.hid (do_fin ZT.out ZO.out ZG.out z5 Z2.out (by omega) (by omega) (by omega))
  obtain ⟨⟨j0, j1⟩, _, _, _, _⟩ := HFIN.out W5 (Below.refl _ _)
  have eB := below_drew W5
  clear hbx hnew z5 o3 hrD b3 k0 k1 hcP hsz3 hra hrb hlt ZT ZO ZG Z2
  go_upto_region 17 with fail
  try rw [hW5]
  clear hW5
  go_region_with ((go_at_call 32; (with_reducible refine (HI.out _ eB).mono ?_); rintro e wi ⟨rfl, bi⟩; obtain ⟨⟨j0, j1⟩, ⟨m0, m1, mf0, mf1⟩, ⟨n0, n1, nf1⟩, ⟨p0, p1⟩, FT⟩ := HFIN.out wi (below_next eB bi)))
  all_goals
    go_wp2
    refine bodyPost_ret (v := .tuple #[.agg #[.int .i64 room, .slice (some ⟨g3, 0, none⟩) n c3], .bool true]) (by simp [results, Try.results28, go_sem, p0, p1]) rfl ⟨us1, g3, c3, HL1.out, rfl, FT.out.1, FT.out.2.1, FT.out.2.2⟩
end Go.Proofs.Ytnlbjpnhepdicaa
