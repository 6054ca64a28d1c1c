/- The law's 'do' of UsagePlays: an act of both. -/
import Derived.Test.YtnlbjpnhepdicaaBoth9
namespace Go.Proofs.Ytnlbjpnhepdicaa
open Go.RowKit Go.Sort
set_option linter.unusedVariables false
set_option linter.unusedSimpArgs false
set_option maxRecDepth 100000

theorem grown_andP {w w1 w2 : World} {row : Option Nat} (h : w.grownBy w1 row) (b : Below w1.heap.size w1 w2) : w.grownBy w2 row :=
  ⟨b.os.trans h.os, b.tape.trans h.tape, b.output.trans h.output, Nat.le_trans h.size b.size, fun k hk hne => (b.block k (Nat.lt_of_lt_of_le hk h.size)).trans (h.block k hk hne)⟩
theorem grown_ownP {w w1 w2 : World} {row : Option Nat} {p : Nat} (h : w.grownBy w1 row) (k : w1.grownBy w2 (some p)) (hp : w.heap.size ≤ p) : w.grownBy w2 row :=
  ⟨k.os.trans h.os, k.tape.trans h.tape, k.output.trans h.output, Nat.le_trans h.size k.size, fun j hj hne => (k.block j (Nat.lt_of_lt_of_le hj h.size) (by intro e; have e2 : j = p := Option.some.inj e; omega)).trans (h.block j hj hne)⟩
theorem tab_keptP {B : Nat} {w w' : World} {g gs : Nat} {room : Int} {us : List UseD} (h : IsTab B w g gs room us) {p : Nat} (hg : w.grownBy w' (some p)) (h1 : g ≠ p) (h2 : gs ≠ p) : IsTab B w' g gs room us :=
  ⟨(hg.block g (tab_lt h).1 (by intro e; exact h1 (Option.some.inj e))).trans h.1, h.2.1.kept hg (.inr (by intro e; have e2 : gs = p := Option.some.inj e; exact h2 e2)), h.2.2⟩
set_option maxHeartbeats 2000000 in
theorem do_count {B : Nat} {w : World} {g gs : Nat} {room : Int} {us : List UseD} (h : IsTab B w g gs room us) {gd cd n : Nat} (hn : us.length = n) (hd : OwnsR' B w 46 3 (.slice (some ⟨gd, 0, none⟩) n cd) (usesV us)) (hB : B ≤ w.heap.size) (x : ActD) (hk : x.kind = 0) (ht0 : 0 ≤ x.time) (ht1 : x.time < 4294967296) :
    Calls Try.prog 28 #[.pointer (some ⟨g, 0, none⟩), .agg #[.int .i64 room, .slice (some ⟨gd, 0, none⟩) n cd], .agg #[.int .i64 x.kind, .int .i64 x.seg, .int .i64 x.n, .int .u32 x.time]] w (DoPost B w g gs room n) := by
  obtain ⟨l1, l2⟩ := tab_lt h
  have hlen := h.2.2.2.2.2.2.1
  obtain ⟨q1, qa, q2, qb, qs⟩ := doW_facts w room (.slice (some ⟨gd, 0, none⟩) n cd) x
  have h0 := h.below qb
  have hd0 := hd.below qb
  obtain ⟨us1, err, hl1, hc1, hc2⟩ := count_both h0 x.seg x.n
  rw [hn] at hl1 hc2
  have HL1 := Lib.hid hl1
  have HC1 := Lib.hid hc1
  have HC2 := Lib.hid hc2
  have Q1 := Lib.hid q1
  have QA := Lib.hid qa
  have Q2 := Lib.hid q2
  have QB := Lib.hid qb
  have QS := Lib.hid qs
  have HT := Lib.hid h0
  have HD := Lib.hid hd0
  have HLT := Lib.hid (And.intro l1 (And.intro l2 (hd.lt gd rfl).2))
  have HB := Lib.hid hB
  have t0 : (x.kind == 0) = true := by rw [hk]; rfl
  clear hl1 hc1 hc2 q1 qa q2 qb qs h0 hd0 h hd hn l1 l2 hB hk hlen
  go_enter Try.func28, Try.ntmps28
  go_wp2_with fail
  refine HC1.out.mono ?_
  rintro e w1 ⟨rfl, t1, g1⟩
  have hlt := HLT.out
  have y1 := Q1.out.kept g1 (by intro e; have e2 : w.heap.size = gs := Option.some.inj e; omega)
  have ya := QA.out.kept g1 (by intro e; have e2 : w.heap.size + 1 = gs := Option.some.inj e; omega)
  have y2 := Q2.out.kept g1 (by intro e; have e2 : w.heap.size + 1 + 1 = gs := Option.some.inj e; omega)
  have yd := HD.out.kept g1 (apartRR HD.out HT.out.2.1 (by decide))
  have hsz : w.heap.size + 3 ≤ w1.heap.size := by have h1 := g1.size; have h2 := QS.out; omega
  have hB1 : B ≤ w1.heap.size := by have := HB.out; omega
  obtain ⟨k0, k1, _, _, _⟩ := y1.cells
  obtain ⟨a0, a1, a2, a3, _⟩ := ya.cells
  have HG1 := Lib.hid (grown_below9 QB.out g1)
  have T1 := Lib.hid t1
  have Y2 := Lib.hid y2
  have YD := Lib.hid yd
  have HSZ := Lib.hid hsz
  have HB1 := Lib.hid hB1
  clear y1 ya y2 yd hsz hB1 t1 g1 hlt Q1 QA Q2 QB QS HD HT HC1
  go_wp2_with fail
  refine (HC2.out _ _ _ YD.out HB1.out).mono ?_
  rintro e w3 ⟨g3, c3, rfl, o3, b3⟩
  rw [HL1.out] at o3 ⊢
  have hlt := HLT.out
  have hsz := HSZ.out
  have hbx := below_box w3 (.cells #[.int .i64 room, .slice (some ⟨g3, 0, none⟩) n c3] 59)
  have z2 := (Y2.out.below b3).below hbx
  have zt := (T1.out.below b3).below hbx
  have zo := o3.below hbx
  have zg := grown_andP (grown_andP HG1.out b3) hbx
  obtain ⟨⟨m0, m1, mf0, mf1⟩, ⟨n0, n1, nf1⟩, ⟨p0, p1⟩, hg⟩ := fin_facts z2 room (.slice (some ⟨g3, 0, none⟩) n c3)
  have FT := Lib.hid (tab_keptP zt hg (by omega) (by omega))
  have hx3 : g3 ≠ w.heap.size + 1 + 1 := by
    intro e
    have hne := (zo.apart (g := w.heap.size + 1 + 1) z2 (by decide))
    exact hne (by rw [← e]; rfl)
  have FO := Lib.hid (zo.kept hg (.inr (by intro e; have e2 : g3 = w.heap.size + 1 + 1 := Option.some.inj e; exact hx3 e2)))
  have FG := Lib.hid (grown_ownP zg hg (by omega))
  clear hbx z2 zt zo zg hg hx3 hlt hsz o3 b3 k0 k1 a0 a1 a2 a3
  go_wp2
  refine bodyPost_ret (v := .tuple #[.agg #[.int .i64 room, .slice (some ⟨g3, 0, none⟩) n c3], .bool true]) (by simp [results, Try.results28, go_sem, p0, p1]) rfl ⟨us1, g3, c3, HL1.out, rfl, FT.out, FO.out, FG.out⟩
set_option maxHeartbeats 2000000 in
theorem do_touch {B : Nat} {w : World} {g gs : Nat} {room : Int} {us : List UseD} (h : IsTab B w g gs room us) {gd cd n : Nat} (hn : us.length = n) (hd : OwnsR' B w 46 3 (.slice (some ⟨gd, 0, none⟩) n cd) (usesV us)) (hB : B ≤ w.heap.size) (x : ActD) (hk : x.kind = 1) (ht0 : 0 ≤ x.time) (ht1 : x.time < 4294967296) :
    Calls Try.prog 28 #[.pointer (some ⟨g, 0, none⟩), .agg #[.int .i64 room, .slice (some ⟨gd, 0, none⟩) n cd], .agg #[.int .i64 x.kind, .int .i64 x.seg, .int .i64 x.n, .int .u32 x.time]] w (DoPost B w g gs room n) := by
  obtain ⟨l1, l2⟩ := tab_lt h
  have hlen := h.2.2.2.2.2.2.1
  obtain ⟨q1, qa, q2, qb, qs⟩ := doW_facts w room (.slice (some ⟨gd, 0, none⟩) n cd) x
  have h0 := h.below qb
  have hd0 := hd.below qb
  obtain ⟨us1, err, hl1, hc1, hc2⟩ := touch_both h0 x.seg x.time ht0 ht1
  rw [hn] at hl1 hc2
  have HL1 := Lib.hid hl1
  have HC1 := Lib.hid hc1
  have HC2 := Lib.hid hc2
  have Q1 := Lib.hid q1
  have QA := Lib.hid qa
  have Q2 := Lib.hid q2
  have QB := Lib.hid qb
  have QS := Lib.hid qs
  have HT := Lib.hid h0
  have HD := Lib.hid hd0
  have HLT := Lib.hid (And.intro l1 (And.intro l2 (hd.lt gd rfl).2))
  have HB := Lib.hid hB
  have t0 : (x.kind == 0) = false := by rw [hk]; rfl
  have t1 : (x.kind == 1) = true := by rw [hk]; rfl
  clear hl1 hc1 hc2 q1 qa q2 qb qs h0 hd0 h hd hn l1 l2 hB hk hlen
  go_enter Try.func28, Try.ntmps28
  go_wp2_with fail
  refine HC1.out.mono ?_
  rintro e w1 ⟨rfl, t1, g1⟩
  have hlt := HLT.out
  have y1 := Q1.out.kept g1 (by intro e; have e2 : w.heap.size = gs := Option.some.inj e; omega)
  have ya := QA.out.kept g1 (by intro e; have e2 : w.heap.size + 1 = gs := Option.some.inj e; omega)
  have y2 := Q2.out.kept g1 (by intro e; have e2 : w.heap.size + 1 + 1 = gs := Option.some.inj e; omega)
  have yd := HD.out.kept g1 (apartRR HD.out HT.out.2.1 (by decide))
  have hsz : w.heap.size + 3 ≤ w1.heap.size := by have h1 := g1.size; have h2 := QS.out; omega
  have hB1 : B ≤ w1.heap.size := by have := HB.out; omega
  obtain ⟨k0, k1, _, _, _⟩ := y1.cells
  obtain ⟨a0, a1, a2, a3, _⟩ := ya.cells
  have HG1 := Lib.hid (grown_below9 QB.out g1)
  have T1 := Lib.hid t1
  have Y2 := Lib.hid y2
  have YD := Lib.hid yd
  have HSZ := Lib.hid hsz
  have HB1 := Lib.hid hB1
  clear y1 ya y2 yd hsz hB1 t1 g1 hlt Q1 QA Q2 QB QS HD HT HC1
  go_wp2_with fail
  refine (HC2.out _ _ _ YD.out HB1.out).mono ?_
  rintro e w3 ⟨g3, c3, rfl, o3, b3⟩
  rw [HL1.out] at o3 ⊢
  have hlt := HLT.out
  have hsz := HSZ.out
  have hbx := below_box w3 (.cells #[.int .i64 room, .slice (some ⟨g3, 0, none⟩) n c3] 59)
  have z2 := (Y2.out.below b3).below hbx
  have zt := (T1.out.below b3).below hbx
  have zo := o3.below hbx
  have zg := grown_andP (grown_andP HG1.out b3) hbx
  obtain ⟨⟨m0, m1, mf0, mf1⟩, ⟨n0, n1, nf1⟩, ⟨p0, p1⟩, hg⟩ := fin_facts z2 room (.slice (some ⟨g3, 0, none⟩) n c3)
  have FT := Lib.hid (tab_keptP zt hg (by omega) (by omega))
  have hx3 : g3 ≠ w.heap.size + 1 + 1 := by
    intro e
    have hne := (zo.apart (g := w.heap.size + 1 + 1) z2 (by decide))
    exact hne (by rw [← e]; rfl)
  have FO := Lib.hid (zo.kept hg (.inr (by intro e; have e2 : g3 = w.heap.size + 1 + 1 := Option.some.inj e; exact hx3 e2)))
  have FG := Lib.hid (grown_ownP zg hg (by omega))
  clear hbx z2 zt zo zg hg hx3 hlt hsz o3 b3 k0 k1 a0 a1 a2 a3
  go_wp2
  refine bodyPost_ret (v := .tuple #[.agg #[.int .i64 room, .slice (some ⟨g3, 0, none⟩) n c3], .bool true]) (by simp [results, Try.results28, go_sem, p0, p1]) rfl ⟨us1, g3, c3, HL1.out, rfl, FT.out, FO.out, FG.out⟩
set_option maxHeartbeats 2000000 in
theorem do_set {B : Nat} {w : World} {g gs : Nat} {room : Int} {us : List UseD} (h : IsTab B w g gs room us) {gd cd n : Nat} (hn : us.length = n) (hd : OwnsR' B w 46 3 (.slice (some ⟨gd, 0, none⟩) n cd) (usesV us)) (hB : B ≤ w.heap.size) (x : ActD) (hk : x.kind = 2) (ht0 : 0 ≤ x.time) (ht1 : x.time < 4294967296) :
    Calls Try.prog 28 #[.pointer (some ⟨g, 0, none⟩), .agg #[.int .i64 room, .slice (some ⟨gd, 0, none⟩) n cd], .agg #[.int .i64 x.kind, .int .i64 x.seg, .int .i64 x.n, .int .u32 x.time]] w (DoPost B w g gs room n) := by
  obtain ⟨l1, l2⟩ := tab_lt h
  have hlen := h.2.2.2.2.2.2.1
  obtain ⟨q1, qa, q2, qb, qs⟩ := doW_facts w room (.slice (some ⟨gd, 0, none⟩) n cd) x
  have h0 := h.below qb
  have hd0 := hd.below qb
  obtain ⟨us1, err, hl1, hc1, hc2⟩ := set_both h0 x.seg x.n
  rw [hn] at hl1 hc2
  have HL1 := Lib.hid hl1
  have HC1 := Lib.hid hc1
  have HC2 := Lib.hid hc2
  have Q1 := Lib.hid q1
  have QA := Lib.hid qa
  have Q2 := Lib.hid q2
  have QB := Lib.hid qb
  have QS := Lib.hid qs
  have HT := Lib.hid h0
  have HD := Lib.hid hd0
  have HLT := Lib.hid (And.intro l1 (And.intro l2 (hd.lt gd rfl).2))
  have HB := Lib.hid hB
  have t0 : (x.kind == 0) = false := by rw [hk]; rfl
  have t1 : (x.kind == 1) = false := by rw [hk]; rfl
  have t2 : (x.kind == 2) = true := by rw [hk]; rfl
  clear hl1 hc1 hc2 q1 qa q2 qb qs h0 hd0 h hd hn l1 l2 hB hk hlen
  go_enter Try.func28, Try.ntmps28
  go_wp2_with fail
  refine HC1.out.mono ?_
  rintro e w1 ⟨rfl, t1, g1⟩
  have hlt := HLT.out
  have y1 := Q1.out.kept g1 (by intro e; have e2 : w.heap.size = gs := Option.some.inj e; omega)
  have ya := QA.out.kept g1 (by intro e; have e2 : w.heap.size + 1 = gs := Option.some.inj e; omega)
  have y2 := Q2.out.kept g1 (by intro e; have e2 : w.heap.size + 1 + 1 = gs := Option.some.inj e; omega)
  have yd := HD.out.kept g1 (apartRR HD.out HT.out.2.1 (by decide))
  have hsz : w.heap.size + 3 ≤ w1.heap.size := by have h1 := g1.size; have h2 := QS.out; omega
  have hB1 : B ≤ w1.heap.size := by have := HB.out; omega
  obtain ⟨k0, k1, _, _, _⟩ := y1.cells
  obtain ⟨a0, a1, a2, a3, _⟩ := ya.cells
  have HG1 := Lib.hid (grown_below9 QB.out g1)
  have T1 := Lib.hid t1
  have Y2 := Lib.hid y2
  have YD := Lib.hid yd
  have HSZ := Lib.hid hsz
  have HB1 := Lib.hid hB1
  clear y1 ya y2 yd hsz hB1 t1 g1 hlt Q1 QA Q2 QB QS HD HT HC1
  go_wp2_with fail
  refine (HC2.out _ _ _ YD.out HB1.out).mono ?_
  rintro e w3 ⟨g3, c3, rfl, o3, b3⟩
  rw [HL1.out] at o3 ⊢
  have hlt := HLT.out
  have hsz := HSZ.out
  have hbx := below_box w3 (.cells #[.int .i64 room, .slice (some ⟨g3, 0, none⟩) n c3] 59)
  have z2 := (Y2.out.below b3).below hbx
  have zt := (T1.out.below b3).below hbx
  have zo := o3.below hbx
  have zg := grown_andP (grown_andP HG1.out b3) hbx
  obtain ⟨⟨m0, m1, mf0, mf1⟩, ⟨n0, n1, nf1⟩, ⟨p0, p1⟩, hg⟩ := fin_facts z2 room (.slice (some ⟨g3, 0, none⟩) n c3)
  have FT := Lib.hid (tab_keptP zt hg (by omega) (by omega))
  have hx3 : g3 ≠ w.heap.size + 1 + 1 := by
    intro e
    have hne := (zo.apart (g := w.heap.size + 1 + 1) z2 (by decide))
    exact hne (by rw [← e]; rfl)
  have FO := Lib.hid (zo.kept hg (.inr (by intro e; have e2 : g3 = w.heap.size + 1 + 1 := Option.some.inj e; exact hx3 e2)))
  have FG := Lib.hid (grown_ownP zg hg (by omega))
  clear hbx z2 zt zo zg hg hx3 hlt hsz o3 b3 k0 k1 a0 a1 a2 a3
  go_wp2
  refine bodyPost_ret (v := .tuple #[.agg #[.int .i64 room, .slice (some ⟨g3, 0, none⟩) n c3], .bool true]) (by simp [results, Try.results28, go_sem, p0, p1]) rfl ⟨us1, g3, c3, HL1.out, rfl, FT.out, FO.out, FG.out⟩
end Go.Proofs.Ytnlbjpnhepdicaa
