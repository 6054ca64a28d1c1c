/- The law's 'do' of UsagePlays: Order. -/
import Derived.Test.YtnlbjpnhepdicaaDo9b
namespace Go.Proofs.Ytnlbjpnhepdicaa
open Go.RowKit Go.Sort
set_option linter.unusedVariables false
set_option linter.unusedSimpArgs false
set_option maxRecDepth 100000

theorem fin_some {W : World} {p : Nat} (h : ∃ R v, BoxP W p R v) (room : Int) (S : Value) : ∃ R0 v0,
    (W.cell? ⟨p, 0, none⟩ = some (.int .i64 R0) ∧ W.cell? ⟨p, 1, none⟩ = some v0 ∧ W.frozen? ⟨p, 0, none⟩ = false ∧ W.frozen? ⟨p, 1, none⟩ = false) ∧
    ((W.setCell ⟨p, 0, none⟩ (.int .i64 room)).cell? ⟨p, 0, none⟩ = some (.int .i64 room) ∧ (W.setCell ⟨p, 0, none⟩ (.int .i64 room)).cell? ⟨p, 1, none⟩ = some v0 ∧ (W.setCell ⟨p, 0, none⟩ (.int .i64 room)).frozen? ⟨p, 1, none⟩ = false) ∧
    (((W.setCell ⟨p, 0, none⟩ (.int .i64 room)).setCell ⟨p, 1, none⟩ S).cell? ⟨p, 0, none⟩ = some (.int .i64 room) ∧ ((W.setCell ⟨p, 0, none⟩ (.int .i64 room)).setCell ⟨p, 1, none⟩ S).cell? ⟨p, 1, none⟩ = some S) := by
  obtain ⟨R, v, h⟩ := h
  obtain ⟨h1, h2, h3, _⟩ := fin_facts h room S
  exact ⟨R, v, h1, h2, h3⟩
set_option maxHeartbeats 8000000 in
theorem do_order {B : Nat} {w : World} {g gs : Nat} {room : Int} {us : List UseD} (h : IsTab B w g gs room us) {gd cd n : Nat} (hn : us.length = n) (hd : OwnsR' B w 46 3 (.slice (some ⟨gd, 0, none⟩) n cd) (usesV us)) (hB : B ≤ w.heap.size) (x : ActD) (hk0 : (x.kind == 0) = false) (hk1 : (x.kind == 1) = false) (hk2 : (x.kind == 2) = false) (hk3 : (x.kind == 3) = false) (ht0 : 0 ≤ x.time) (ht1 : x.time < 4294967296) :
    Calls Try.prog 28 #[.pointer (some ⟨g, 0, none⟩), .agg #[.int .i64 room, .slice (some ⟨gd, 0, none⟩) n cd], .agg #[.int .i64 x.kind, .int .i64 x.seg, .int .i64 x.n, .int .u32 x.time]] w (DoPost B w g gs room n) := by
  obtain ⟨l1, l2⟩ := tab_lt h
  have hlen := h.2.2.2.2.2.2.1
  obtain ⟨q1, qa, q2, qb, qs⟩ := doW_facts w room (.slice (some ⟨gd, 0, none⟩) n cd) x
  have h0 := h.below qb
  have hd0 := hd.below qb
  have hbw : ∀ W : World, (W.cell? ⟨w.heap.size, 0, none⟩ = some (.int .i64 room) ∧ W.cell? ⟨w.heap.size, 1, none⟩ = some (.slice (some ⟨gd, 0, none⟩) n cd) ∧ W.cell? ⟨w.heap.size + 1, 3, none⟩ = some (.int .u32 x.time) ∧ Below (w.heap.size + 2) (doW w room (.slice (some ⟨gd, 0, none⟩) n cd) x) W ∧ ∃ R v, BoxP W (w.heap.size + 1 + 1) R v) → Below w.heap.size w W := fun W hW => qb.trans (hW.2.2.2.1.mono (by omega))
  have HOP := Lib.hid (fun (W : World) (hW : (W.cell? ⟨w.heap.size, 0, none⟩ = some (.int .i64 room) ∧ W.cell? ⟨w.heap.size, 1, none⟩ = some (.slice (some ⟨gd, 0, none⟩) n cd) ∧ W.cell? ⟨w.heap.size + 1, 3, none⟩ = some (.int .u32 x.time) ∧ Below (w.heap.size + 2) (doW w room (.slice (some ⟨gd, 0, none⟩) n cd) x) W ∧ ∃ R v, BoxP W (w.heap.size + 1 + 1) R v)) => torder_is (h.below (hbw W hW)) x.time ht0 ht1)
  have hod := fun (W : World) (hW : (W.cell? ⟨w.heap.size, 0, none⟩ = some (.int .i64 room) ∧ W.cell? ⟨w.heap.size, 1, none⟩ = some (.slice (some ⟨gd, 0, none⟩) n cd) ∧ W.cell? ⟨w.heap.size + 1, 3, none⟩ = some (.int .u32 x.time) ∧ Below (w.heap.size + 2) (doW w room (.slice (some ⟨gd, 0, none⟩) n cd) x) W ∧ ∃ R v, BoxP W (w.heap.size + 1 + 1) R v)) => rorder_is room (some ⟨gd, 0, none⟩) cd us x.time ht0 ht1 W (use_reads (hd.below (hbw W hW))) h.2.2.2
  have SN := Lib.hid (fun (W W' : World) (hW : (W.cell? ⟨w.heap.size, 0, none⟩ = some (.int .i64 room) ∧ W.cell? ⟨w.heap.size, 1, none⟩ = some (.slice (some ⟨gd, 0, none⟩) n cd) ∧ W.cell? ⟨w.heap.size + 1, 3, none⟩ = some (.int .u32 x.time) ∧ Below (w.heap.size + 2) (doW w room (.slice (some ⟨gd, 0, none⟩) n cd) x) W ∧ ∃ R v, BoxP W (w.heap.size + 1 + 1) R v)) (b : Below W.heap.size W W') => (⟨(b.cell (p := ⟨w.heap.size, 0, none⟩) (World.block_lt_of_cell? _ _ hW.1)).trans hW.1, (b.cell (p := ⟨w.heap.size, 1, none⟩) (World.block_lt_of_cell? _ _ hW.2.1)).trans hW.2.1, (b.cell (p := ⟨w.heap.size + 1, 3, none⟩) (World.block_lt_of_cell? _ _ hW.2.2.1)).trans hW.2.2.1, hW.2.2.2.1.trans (b.mono (by have := hW.2.2.2.1.size; omega)), by obtain ⟨R, v, hb⟩ := hW.2.2.2.2; exact ⟨R, v, hb.below b⟩⟩ : (W'.cell? ⟨w.heap.size, 0, none⟩ = some (.int .i64 room) ∧ W'.cell? ⟨w.heap.size, 1, none⟩ = some (.slice (some ⟨gd, 0, none⟩) n cd) ∧ W'.cell? ⟨w.heap.size + 1, 3, none⟩ = some (.int .u32 x.time) ∧ Below (w.heap.size + 2) (doW w room (.slice (some ⟨gd, 0, none⟩) n cd) x) W' ∧ ∃ R v, BoxP W' (w.heap.size + 1 + 1) R v)))
  have SS := Lib.hid (fun (W : World) (hW : (W.cell? ⟨w.heap.size, 0, none⟩ = some (.int .i64 room) ∧ W.cell? ⟨w.heap.size, 1, none⟩ = some (.slice (some ⟨gd, 0, none⟩) n cd) ∧ W.cell? ⟨w.heap.size + 1, 3, none⟩ = some (.int .u32 x.time) ∧ Below (w.heap.size + 2) (doW w room (.slice (some ⟨gd, 0, none⟩) n cd) x) W ∧ ∃ R v, BoxP W (w.heap.size + 1 + 1) R v)) => (⟨((World.cell?_setCell_other _ (a := ⟨w.heap.size + 1 + 1, 1, none⟩) (b := ⟨w.heap.size, 0, none⟩) (v := .slice (some ⟨gd, 0, none⟩) n cd) (by intro e; have e2 := congrArg Addr.block e; simp at e2 <;> omega)).trans (World.cell?_setCell_other W (a := ⟨w.heap.size + 1 + 1, 0, none⟩) (b := ⟨w.heap.size, 0, none⟩) (v := .int .i64 room) (by intro e; have e2 := congrArg Addr.block e; simp at e2 <;> omega))).trans hW.1, ((World.cell?_setCell_other _ (a := ⟨w.heap.size + 1 + 1, 1, none⟩) (b := ⟨w.heap.size, 1, none⟩) (v := .slice (some ⟨gd, 0, none⟩) n cd) (by intro e; have e2 := congrArg Addr.block e; simp at e2 <;> omega)).trans (World.cell?_setCell_other W (a := ⟨w.heap.size + 1 + 1, 0, none⟩) (b := ⟨w.heap.size, 1, none⟩) (v := .int .i64 room) (by intro e; have e2 := congrArg Addr.block e; simp at e2 <;> omega))).trans hW.2.1, ((World.cell?_setCell_other _ (a := ⟨w.heap.size + 1 + 1, 1, none⟩) (b := ⟨w.heap.size + 1, 3, none⟩) (v := .slice (some ⟨gd, 0, none⟩) n cd) (by intro e; have e2 := congrArg Addr.block e; simp at e2 <;> omega)).trans (World.cell?_setCell_other W (a := ⟨w.heap.size + 1 + 1, 0, none⟩) (b := ⟨w.heap.size + 1, 3, none⟩) (v := .int .i64 room) (by intro e; have e2 := congrArg Addr.block e; simp at e2 <;> omega))).trans hW.2.2.1, (hW.2.2.2.1.setCell (p := ⟨w.heap.size + 1 + 1, 0, none⟩) (show w.heap.size + 2 ≤ w.heap.size + 1 + 1 by omega) _).setCell (p := ⟨w.heap.size + 1 + 1, 1, none⟩) (show w.heap.size + 2 ≤ w.heap.size + 1 + 1 by omega) _, by obtain ⟨R, v, hb⟩ := hW.2.2.2.2; exact ⟨room, _, (hb.set0 room).set _⟩⟩ : (((W.setCell ⟨w.heap.size + 1 + 1, 0, none⟩ (.int .i64 room)).setCell ⟨w.heap.size + 1 + 1, 1, none⟩ (.slice (some ⟨gd, 0, none⟩) n cd)).cell? ⟨w.heap.size, 0, none⟩ = some (.int .i64 room) ∧ ((W.setCell ⟨w.heap.size + 1 + 1, 0, none⟩ (.int .i64 room)).setCell ⟨w.heap.size + 1 + 1, 1, none⟩ (.slice (some ⟨gd, 0, none⟩) n cd)).cell? ⟨w.heap.size, 1, none⟩ = some (.slice (some ⟨gd, 0, none⟩) n cd) ∧ ((W.setCell ⟨w.heap.size + 1 + 1, 0, none⟩ (.int .i64 room)).setCell ⟨w.heap.size + 1 + 1, 1, none⟩ (.slice (some ⟨gd, 0, none⟩) n cd)).cell? ⟨w.heap.size + 1, 3, none⟩ = some (.int .u32 x.time) ∧ Below (w.heap.size + 2) (doW w room (.slice (some ⟨gd, 0, none⟩) n cd) x) ((W.setCell ⟨w.heap.size + 1 + 1, 0, none⟩ (.int .i64 room)).setCell ⟨w.heap.size + 1 + 1, 1, none⟩ (.slice (some ⟨gd, 0, none⟩) n cd)) ∧ ∃ R v, BoxP ((W.setCell ⟨w.heap.size + 1 + 1, 0, none⟩ (.int .i64 room)).setCell ⟨w.heap.size + 1 + 1, 1, none⟩ (.slice (some ⟨gd, 0, none⟩) n cd)) (w.heap.size + 1 + 1) R v)))
  have HDR := Lib.hid (fun (u : Unit) => (below_drew (doW w room (.slice (some ⟨gd, 0, none⟩) n cd) x)).mono (show w.heap.size + 2 ≤ _ by omega))
  have HZ2 : Hid (∃ R v, BoxP (doW w room (.slice (some ⟨gd, 0, none⟩) n cd) x) (w.heap.size + 1 + 1) R v) := Lib.hid ⟨_, _, q2⟩
  have HEND := Lib.hid (fun (W : World) (hW : (W.cell? ⟨w.heap.size, 0, none⟩ = some (.int .i64 room) ∧ W.cell? ⟨w.heap.size, 1, none⟩ = some (.slice (some ⟨gd, 0, none⟩) n cd) ∧ W.cell? ⟨w.heap.size + 1, 3, none⟩ = some (.int .u32 x.time) ∧ Below (w.heap.size + 2) (doW w room (.slice (some ⟨gd, 0, none⟩) n cd) x) W ∧ ∃ R v, BoxP W (w.heap.size + 1 + 1) R v)) => And.intro (h.below (hbw W hW)) (And.intro (hd.below (hbw W hW)) (grown_below9 (hbw W hW) (grown_same W (some gs)))))
  have HFS := Lib.hid (fun (W : World) (hW : (W.cell? ⟨w.heap.size, 0, none⟩ = some (.int .i64 room) ∧ W.cell? ⟨w.heap.size, 1, none⟩ = some (.slice (some ⟨gd, 0, none⟩) n cd) ∧ W.cell? ⟨w.heap.size + 1, 3, none⟩ = some (.int .u32 x.time) ∧ Below (w.heap.size + 2) (doW w room (.slice (some ⟨gd, 0, none⟩) n cd) x) W ∧ ∃ R v, BoxP W (w.heap.size + 1 + 1) R v)) (wi : World) (b : Below W.heap.size W wi) => fin_some (by obtain ⟨R, v, hb⟩ := hW.2.2.2.2; exact ⟨R, v, hb.below b⟩) room (.slice (some ⟨gd, 0, none⟩) n cd))
  have hsm := order_same (now := x.time) h.2.2.2
  have hlenL : (orderL room x.time us).length ≤ 100000 := by
    have h1 : (orderL room x.time us).length = (inL 1 us).length := sortL_length _ _
    have h2 := placesL_length (fun u : UseD => u.state == 1) us us.length
    unfold inL at h1
    omega
  have hsame := ints_same (orderL room x.time us)
  rw [← hsm, hn] at hod
  obtain ⟨M, hM⟩ : ∃ M, orderL room x.time us = M := ⟨_, rfl⟩
  rw [hM] at HOP hod hsame hlenL
  obtain ⟨mm, hmm⟩ : ∃ mm, M.length = mm := ⟨_, rfl⟩
  have HMM := Lib.hid hmm
  rw [hmm] at hsame hlenL
  have HSAME := Lib.hid hsame
  have HIL := Lib.hid hlenL
  have HOD := Lib.hid hod
  have hgr : w.grownBy (doW w room (.slice (some ⟨gd, 0, none⟩) n cd) x) (some gs) := grown_below9 qb (grown_same _ _)
  have hT0 := h0
  have hO0 := hd0
  have HFA := Lib.hid (fun (W : World) (hW : Below (doW w room (.slice (some ⟨gd, 0, none⟩) n cd) x).heap.size (doW w room (.slice (some ⟨gd, 0, none⟩) n cd) x) W) => And.intro (do_fin hT0 hO0 hgr q1 q2 (by omega) (by omega) (by omega) W hW) (And.intro (qa.below hW).cells hW))
  have HN := Lib.hid hn
  clear q1 qa q2 qb qs h0 hd0 h hd hn l1 l2 hB hlen hM hmm hsame hlenL hod hsm hgr hT0 hO0
  go_enter Try.func28, Try.ntmps28
  obtain ⟨W0, hW0⟩ : ∃ W0, doW w room (.slice (some ⟨gd, 0, none⟩) n cd) x = W0 := ⟨_, rfl⟩
  rw [hW0] at HOP HOD HFA SN HDR HZ2 SS HEND HFS
  unfold doW at hW0
  obtain ⟨⟨⟨j0, j1⟩, _, _, _, _⟩, ⟨a0, a1, a2, a3, _⟩, _⟩ := HFA.out W0 (Below.refl _ _)
  go_upto_region 18 with fail
  try rw [hW0]
  clear hW0
  go_region_held3 (fun W => W.cell? ⟨w.heap.size, 0, none⟩ = some (.int .i64 room) ∧ W.cell? ⟨w.heap.size, 1, none⟩ = some (.slice (some ⟨gd, 0, none⟩) n cd) ∧ W.cell? ⟨w.heap.size + 1, 3, none⟩ = some (.int .u32 x.time) ∧ Below (w.heap.size + 2) W0 W ∧ ∃ R v, BoxP W (w.heap.size + 1 + 1) R v)
    (first | assumption | exact ⟨j0, j1, a3, Below.refl _ _, HZ2.out⟩ | exact ⟨j0, j1, a3, HDR.out (), HZ2.out⟩ | exact SN.out _ _ (by assumption) bI | exact SN.out _ _ (by assumption) bP | exact SN.out _ _ (by assumption) bD | exact SS.out _ (by assumption))
    ((first
      | (go_at_call 30; (with_reducible refine (HOP.out _ (by assumption)).mono ?_); rintro e wp ⟨aP, cP, rfl, hrP, hcP, bP⟩; rw [HMM.out] at hrP hcP ⊢)
      | (go_at_call 33; (with_reducible refine (HOD.out _ (by assumption)).mono ?_); rintro e wd ⟨vD, rfl, hoD, bD⟩; obtain ⟨aD, cD, rfl, hrD, _, _⟩ := hoD.reads; rw [natV_length, HMM.out] at hrD ⊢)
      | (go_at_call 32; (with_reducible refine (HSAME.out aP aD cP cD _ (by first | exact hrP | exact hrP.below bD) (by first | exact hrD | exact hrD.below bP) HIL.out).mono ?_); rintro e wi ⟨rfl, bI⟩; obtain ⟨R0, v0, ⟨m0, m1, mf0, mf1⟩, ⟨n0, n1, nf1⟩, ⟨p0, p1⟩⟩ := HFS.out _ (by assumption) _ bI)))
  all_goals
    rename_i hHeld
    have FT := HEND.out _ hHeld
    go_wp2
    refine bodyPost_ret (v := .tuple #[.agg #[.int .i64 room, .slice (some ⟨gd, 0, none⟩) n cd], .bool true]) (by simp [results, Try.results28, go_sem, p0, p1]) rfl ⟨us, gd, cd, HN.out, rfl, FT.1, FT.2.1, FT.2.2⟩
end Go.Proofs.Ytnlbjpnhepdicaa
