/- The law DiskPlays, walked. -/
import Derived.Test.YtgakidimipipeaaDo3
import Derived.Test.YtgakidimipipeaaAwake3
import Derived.Test.YtgakidimipipeaaOpenRec
namespace Go.Proofs.Ytgakidimipipeaa
open Go.RowKit Go.Sort
set_option linter.unusedVariables false
set_option linter.unusedSimpArgs false
set_option maxRecDepth 100000

theorem lt_of_eb {w w' : World} {g : Nat} {o : Obj} (e : w'.heap[g]? = w.heap[g]?) (h : w.heap[g]? = some o) : g < w'.heap.size := (Array.getElem?_eq_some_iff.1 (e.trans h)).1
theorem lt_of_eb2 {w w' : World} {g : Nat} (e : w'.heap[g]? = w.heap[g]?) (h : g < w.heap.size) : g < w'.heap.size := lt_of_eb e (Array.getElem?_eq_getElem h)
theorem rbox_ne {B : Nat} {w : World} {g gs b : Nat} {cs : Array Value} {cv : Value} {D : DiskD} (h : IsDisk B w g gs cv D) (hb : w.heap[b]? = some (.cells cs 75 (0, 0))) : b ≠ g ∧ b ≠ gs ∧ cv.ownBlock ≠ some b := by
  obtain ⟨k1, k2, k3, _⟩ := h
  refine ⟨nblock hb k1 (by decide), nblock hb k2 (by decide), fun e9 => ?_⟩
  obtain ⟨_, ⟨rfl, _⟩ | ⟨g9, c9, cur9, rfl, _, hg9, _⟩⟩ := k3
  · cases e9
  · have : g9 = b := Option.some.inj e9
    exact nblock hg9 hb (by decide) this
theorem results_tmp_five {fn : Func} {p u : Tmp} (h : fn.results = #[.tmp u, .cell p 75]) (tmps : Array Value) (w : World) (g : Nat) {a b c d e : Value} (hp : tmps.getD p undef = .pointer (some ⟨g, 0, none⟩)) (hf : Five w g a b c d e) :
    (results fn tmps).run Try.prog w = .ok (.tuple #[tmps.getD u undef, .agg #[a, b, c, d, e]]) w := by
  have e1 : (results fn tmps).run Try.prog w = ((asAddr (tmps.getD p undef)).run Try.prog w).andThen fun a w₁ => ((loadVar 75 a).run Try.prog w₁).andThen fun v w₂ => .ok (.tuple #[tmps.getD u undef, v]) w₂ := by
    simp only [results, h]
    simp [Sem.run_bind, Result.andThen]
  rw [e1, hp]
  simp only [asAddr, Sem.run_pure, Result.andThen_ok, load_five hf]
theorem disk_less {B B' : Nat} {w : World} {g gs : Nat} {cv : Value} {D : DiskD} (h : IsDisk B w g gs cv D) (hB : B' ≤ B) : IsDisk B' w g gs cv D := by
  obtain ⟨h1, h2, ⟨q1, q2⟩, h4, h5, h6⟩ := h
  refine ⟨h1, h2, ⟨q1, ?_⟩, h4, Nat.le_trans hB h5, Nat.le_trans hB h6⟩
  rcases q2 with q2 | ⟨gc, cap, cur, hv, q3, rest⟩
  · exact .inl q2
  · exact .inr ⟨gc, cap, cur, hv, Nat.le_trans hB q3, rest⟩
theorem ref_less {B B' : Nat} {w : World} {D : DiskD} {v : Value} (h : RefIs B w D v) (hB : B' ≤ B) : RefIs B' w D v := by
  obtain ⟨sa, sc, qa, qc, e, h1, h2⟩ := h
  exact ⟨sa, sc, qa, qc, e, h1.less hB, h2.less hB⟩
theorem sized_is (n : Int) (w : World) : Calls Try.prog 35 #[.int .i64 n] w fun e w' => ∃ g gs v k, e = .returned (.tuple #[.pointer (some ⟨g, 0, none⟩), v]) ∧ IsDisk w.heap.size w' g gs (.slice none 0 0) (newD k) ∧ RefIs w.heap.size w' (newD k) v ∧ Below w.heap.size w w' := by
  obtain ⟨k, hk⟩ : ∃ k : Nat, max (1 : Int) (min n 30) = (k : Int) := ⟨(max (1 : Int) (min n 30)).toNat, by omega⟩
  have hk1 : 1 ≤ k := by omega
  have hk2 : k ≤ 65536 := by omega
  have HN := Lib.hid (fun W => dnew_is k W hk1 hk2)
  have HR := Lib.hid (fun W => rnew_is k W hk1 hk2)
  clear hk1 hk2
  go_enter Try.func35, Try.ntmps35
  go_wp2_with fail
  have n0 := heap_alloc_new w (.cells zeroR 75)
  have b0 := below_box w (.cells zeroR 75)
  refine (HN.out _).mono ?_
  rintro e w2 ⟨g, gs, rfl, hd2, b2⟩
  have c2 := below_next b0 b2
  have hd2' := disk_less hd2 b0.size
  have n2 := (b2.block w.heap.size (by simp)).trans n0
  go_wp2_with fail
  refine (HR.out _).mono ?_
  rintro e w3 ⟨v, rfl, hr3, b3⟩
  obtain ⟨xa, xn, xc, ya, yn, yc, dd, ai, dn, rfl⟩ := ref_agg hr3
  have n3 := (b3.block w.heap.size (Array.getElem?_eq_some_iff.1 n2).1).trans n2
  have HD3 := Lib.hid (hd2'.more b3)
  have HR3 := Lib.hid (ref_less hr3 c2.size)
  have K3 := Lib.hid (below_next c2 b3)
  have N3 := Lib.hid n3
  have z0 := cell_of_row n3 0
  have z1 := cell_of_row n3 1
  have z2 := cell_of_row n3 2
  have z3 := cell_of_row n3 3
  have z4 := cell_of_row n3 4
  have ff := fun i => frozen_of_row w3 w.heap.size i _ _ n3
  clear n0 b0 b2 c2 hd2 hd2' n2 b3 hr3 n3
  go_wp2
  have G := (five_set (.slice xa xn xc) (.slice ya yn yc) (.bool dd) (.int .i64 ai) (.int .i64 dn) N3.out).2
  refine bodyPost_ret (results_tmp_five rfl _ _ w.heap.size rfl (five_set _ _ _ _ _ N3.out).1) rfl ?_
  exact ⟨g, gs, _, k, rfl, HD3.out.keptR G N3.out, HR3.out.keptR G N3.out, K3.out.grown G K3.out.size (fun i hi => by obtain rfl := Option.some.inj hi; exact Nat.le_refl _)⟩
/-- An act on a disk. -/
structure Act3D where
  kind : Int
  at_ : Int
  sa : Option Addr
  sn : Nat
  sc : Nat
  ka : Option Addr
  kn : Nat
  kc : Nat
  S : List Nat
  ks : List Bool
def act3V (x : Act3D) : List Value := [.int .i64 x.kind, .int .i64 x.at_, .slice x.sa x.sn x.sc, .slice x.ka x.kn x.kc]
def Act3Fits (w : World) (x : Act3D) : Prop := I64 x.kind ∧ I64 x.at_ ∧ (Reads w x.sa x.sn x.S ∧ x.sn ≤ maxLen) ∧ (ReadsB w x.ka x.kn x.ks ∧ x.kn ≤ 9223372036854775807)
set_option maxHeartbeats 1000000 in
theorem diskPlays_walk (n : Int) (a : Option Addr) (cap : Nat) (l : List Act3D) (w : World) (hr : ReadsR w a 4 (rowsOf act3V l)) (hfit : ∀ u ∈ l, Act3Fits w u) (hcap : l.length ≤ cap) :
    Calls Try.prog 5 #[.int .i64 n, .slice a l.length cap] w fun e w' => e = .returned (.bool true) ∧ Below w.heap.size w w' := by
  obtain ⟨L, hL⟩ : ∃ L, l.length = L := ⟨_, rfl⟩
  have HLN := Lib.hid hL
  rw [hL] at hcap ⊢
  have HR := Lib.hid hr
  have HF := Lib.hid hfit
  clear hr hfit hL
  go_enter Try.func5, Try.ntmps5
  go_wp2_with fail
  refine (awake3_true w).mono ?_
  rintro e w1 ⟨rfl, b1⟩
  have B1 := Lib.hid b1
  clear b1
  go_wp2_with fail
  refine (sized_is n w1).mono ?_
  rintro e w2 ⟨g, gs, v, k, rfl, hd2, hr2, b2⟩
  obtain ⟨xa, xn, xc, ya, yn, yc, dd, ai, dn, rfl⟩ := ref_agg hr2
  obtain ⟨gb, hgb⟩ : ∃ x, w2.heap.size = x := ⟨_, rfl⟩
  have n3 := heap_alloc_new w2 (.cells #[.slice xa xn xc, .slice ya yn yc, .bool dd, .int .i64 ai, .int .i64 dn] 75)
  have b3 := below_box w2 (.cells #[.slice xa xn xc, .slice ya yn yc, .bool dd, .int .i64 ai, .int .i64 dn] 75)
  obtain ⟨w3, hw3⟩ : ∃ x, w2.alloc (.cells #[.slice xa xn xc, .slice ya yn yc, .bool dd, .int .i64 ai, .int .i64 dn] 75) = x := ⟨_, rfl⟩
  rw [hw3] at n3 b3
  rw [hgb] at n3
  have HD3 := Lib.hid (hd2.more b3)
  have HR3 := Lib.hid (hr2.below b3)
  have HN3 := Lib.hid n3
  have HB3 : Hid (Below w.heap.size w w3) := Lib.hid (below_next B1.out (below_next b2 b3))
  have hgb1 : w1.heap.size ≤ gb := by rw [← hgb]; exact b2.size
  have HW1 : Hid (w.heap.size ≤ w1.heap.size) := Lib.hid B1.out.size
  have HRB : Hid (∀ b off, a = some (⟨b, off, none⟩ : Addr) → l ≠ [] → b < w.heap.size) := Lib.hid (fun b off e hne => by
    rcases HR.out.2 with h0 | ⟨b9, o9, he, hb9, _⟩
    · have h1 := congrArg List.length h0
      rw [rowsOf_length] at h1
      exact absurd (List.length_eq_zero_iff.1 h1) hne
    · rw [e] at he
      cases he
      exact hb9)
  clear n3 b3 b2 hd2 hr2
  go_wp2_with fail
  clear hw3 hgb
  go_loopw [7] (fun i wr => ∃ (j : Nat) (D : DiskD) (cv : Value) (xa : Option Addr) (xn xc : Nat) (ya : Option Addr) (yn yc : Nat) (dd : Bool) (ai dn : Int), j ≤ L ∧ j ≤ 40 ∧ i = .int .i64 (j : Int) ∧ Hid (IsDisk w1.heap.size wr g gs cv D) ∧ Hid (RefIs w1.heap.size wr D (.agg #[.slice xa xn xc, .slice ya yn yc, .bool dd, .int .i64 ai, .int .i64 dn])) ∧ Hid (wr.heap[gb]? = some (.cells #[.slice xa xn xc, .slice ya yn yc, .bool dd, .int .i64 ai, .int .i64 dn] 75 (0, 0))) ∧ Hid (Below w.heap.size w wr) ∧ D.deeds ≤ j ∧ D.cache.length ≤ j) (fun i _ => 40 - (intOf i).toNat)
  case atStart => exact ⟨0, _, _, _, _, _, _, _, _, _, _, _, Nat.zero_le _, by decide, rfl, HD3, HR3, HN3, HB3, Nat.le_refl _, Nat.le_refl _⟩
  case round =>
    obtain ⟨j, D, cv, xa, xn, xc, ya, yn, yc, dd, ai, dn, hj1, hj2, rfl, HD, HRR, HN, HB, hde, hca⟩ := hrel
    clear HD3 HR3 HN3 HB3
    have x0 : wr.cell? ⟨gb, 0, none⟩ = some (.slice xa xn xc) := cell_of_row HN.out 0
    have x1 : wr.cell? ⟨gb, 1, none⟩ = some (.slice ya yn yc) := cell_of_row HN.out 1
    have x2 : wr.cell? ⟨gb, 2, none⟩ = some (.bool dd) := cell_of_row HN.out 2
    have x3 : wr.cell? ⟨gb, 3, none⟩ = some (.int .i64 ai) := cell_of_row HN.out 3
    have x4 : wr.cell? ⟨gb, 4, none⟩ = some (.int .i64 dn) := cell_of_row HN.out 4
    by_cases hlt : j < L
    · by_cases h40 : j < 40
      · obtain ⟨⟨kd, at_, sa, sn, sc, ka, kn, kc, S, ks⟩, hx⟩ : ∃ x, l[j]? = some x := ⟨_, List.getElem?_eq_getElem (by rw [HLN.out]; exact hlt)⟩
        obtain ⟨p1, p2, ⟨p3, p4⟩, p5, p6⟩ := HF.out _ (List.mem_of_getElem? hx)
        dsimp only at p1 p2 p3 p4 p5 p6
        obtain ⟨b, off, rfl, hb, hc⟩ := (HR.out.below HB.out).row (rowsOf_get hx)
        have c0 : wr.cell? ⟨b, off + j * 4, none⟩ = some (.int .i64 kd) := hc 0 _ rfl
        have c1 : wr.cell? ⟨b, off + j * 4 + 1, none⟩ = some (.int .i64 at_) := by have := hc 1 _ rfl; rwa [← Nat.add_assoc] at this
        have c2 : wr.cell? ⟨b, off + j * 4 + 2, none⟩ = some (.slice sa sn sc) := by have := hc 2 _ rfl; rwa [← Nat.add_assoc] at this
        have c3 : wr.cell? ⟨b, off + j * 4 + 3, none⟩ = some (.slice ka kn kc) := by have := hc 3 _ rfl; rwa [← Nat.add_assoc] at this
        have hx1 : (0 : Int) ≤ (j : Int) := by omega
        have hx2 : (j : Int) < (L : Int) := by omega
        have hx3 : (j : Int) < 40 := by omega
        have hsB : S ≠ [] → ∀ y, sa = some y → y.block < w1.heap.size := fun hne y hy => by
          rcases p3.2.2 with h0 | ⟨b9, o9, he, hb9, _⟩
          · exact absurd h0 hne
          · rw [hy] at he
            have := Option.some.inj he
            have h9 := HW1.out
            rw [this]
            show b9 < _
            omega
        have hkB : ks ≠ [] → ∀ y, ka = some y → y.block < w1.heap.size := fun hne y hy => by
          rcases p5.2 with h0 | ⟨b9, o9, he, hb9, _⟩
          · exact absurd h0 hne
          · rw [hy] at he
            have := Option.some.inj he
            have h9 := HW1.out
            rw [this]
            show b9 < _
            omega
        have HDOF := Lib.hid (fun (W : World) (hW : Below wr.heap.size wr W) => do3_is (HD.out.more hW) (HRR.out.below hW) (by omega) (by omega) kd at_ sa sn sc S (p3.below (below_next HB.out hW)) p3.2.1 p4 hsB ka kn kc ks (readsB_below p5 (below_next HB.out hW)) p6 hkB p2.2)
        have NGB := Lib.hid (rbox_ne HD.out HN.out)
        have HBL : Hid (b < wr.heap.size) := Lib.hid hb
        have HBB : Hid (b < w1.heap.size) := Lib.hid (by have := HRB.out b off rfl (by intro h0; rw [h0] at hx; cases hx); have := HW1.out; omega)
        have HWR : Hid (w1.heap.size ≤ wr.heap.size) := Lib.hid HD.out.size
        have SX : Hid (∀ W : World, W.heap[gb]? = wr.heap[gb]? → W.heap[b]? = wr.heap[b]? → ((W.cell? ⟨gb, 0, none⟩ = some (.slice xa xn xc) ∧ W.cell? ⟨gb, 1, none⟩ = some (.slice ya yn yc) ∧ W.cell? ⟨gb, 2, none⟩ = some (.bool dd) ∧ W.cell? ⟨gb, 3, none⟩ = some (.int .i64 ai) ∧ W.cell? ⟨gb, 4, none⟩ = some (.int .i64 dn)) ∧ W.cell? ⟨b, off + j * 4, none⟩ = some (.int .i64 kd) ∧ W.cell? ⟨b, off + j * 4 + 1, none⟩ = some (.int .i64 at_) ∧ W.cell? ⟨b, off + j * 4 + 2, none⟩ = some (.slice sa sn sc) ∧ W.cell? ⟨b, off + j * 4 + 3, none⟩ = some (.slice ka kn kc))) := Lib.hid (fun W e0 e1 => by
          have k0 := e0.trans HN.out
          exact ⟨⟨cell_of_row k0 0, cell_of_row k0 1, cell_of_row k0 2, cell_of_row k0 3, cell_of_row k0 4⟩, (World.cell?_of_block (w := wr) (a := ⟨b, off + j * 4, none⟩) e1).trans c0, (World.cell?_of_block (w := wr) (a := ⟨b, off + j * 4 + 1, none⟩) e1).trans c1, (World.cell?_of_block (w := wr) (a := ⟨b, off + j * 4 + 2, none⟩) e1).trans c2, (World.cell?_of_block (w := wr) (a := ⟨b, off + j * 4 + 3, none⟩) e1).trans c3⟩)
        have HLT := Lib.hid hlt
        have HJ4 := Lib.hid h40
        have HDC := Lib.hid (And.intro hde hca)
        clear p1 p2 p3 p4 p5 p6 hsB hkB hc hx hb hlt h40
        go_wp2_with fail
        clear x0 x1 x2 x3 x4 c0 c1 c2 c3
        refine wp_region_held_drew (S := fun W => ((W.cell? ⟨gb, 0, none⟩ = some (.slice xa xn xc) ∧ W.cell? ⟨gb, 1, none⟩ = some (.slice ya yn yc) ∧ W.cell? ⟨gb, 2, none⟩ = some (.bool dd) ∧ W.cell? ⟨gb, 3, none⟩ = some (.int .i64 ai) ∧ W.cell? ⟨gb, 4, none⟩ = some (.int .i64 dn)) ∧ W.cell? ⟨b, off + j * 4, none⟩ = some (.int .i64 kd) ∧ W.cell? ⟨b, off + j * 4 + 1, none⟩ = some (.int .i64 at_) ∧ W.cell? ⟨b, off + j * 4 + 2, none⟩ = some (.slice sa sn sc) ∧ W.cell? ⟨b, off + j * 4 + 3, none⟩ = some (.slice ka kn kc))) (by kernel_rfl) (SX.out wr.drew rfl rfl) (fun hHeld => ?_)
        obtain ⟨w5, hw5⟩ : ∃ x, wr.drew = x := ⟨_, rfl⟩
        have c5 : Below wr.heap.size wr w5 := by rw [← hw5]; exact (Below.refl _ _).drew
        have eb5 : w5.heap[gb]? = wr.heap[gb]? := by rw [← hw5]; rfl
        have ea5 : w5.heap[b]? = wr.heap[b]? := by rw [← hw5]; rfl
        have s5 := c5.size
        rw [hw5] at hHeld ⊢
        clear hw5
        refine wpAnyH_take (i := 0) (v := .pointer (some ⟨g, 0, none⟩)) rfl (by kernel_rfl) (by kernel_rfl) (by kernel_rfl) (fun _ _ _ h => h) (Or.inl ⟨by rfl, by intro W hSw; clear hSw; go_simp⟩) (by assumption) ?_
        try simp only [List.getElem_toArray, List.getElem_cons_zero, List.getElem_cons_succ, Act.put, List.setIfInBounds_toArray, List.set_cons_zero, List.set_cons_succ]
        refine wpAnyH_take (i := 1) (v := .agg #[.slice xa xn xc, .slice ya yn yc, .bool dd, .int .i64 ai, .int .i64 dn]) rfl (by kernel_rfl) (by kernel_rfl) (by kernel_rfl) (fun _ _ _ h => h) (Or.inl ⟨by rfl, by intro W hSw; obtain ⟨⟨q0, q1, q2, q3, q4⟩, q5, q6, q7, q8⟩ := hSw; go_simp⟩) (by assumption) ?_
        try simp only [List.getElem_toArray, List.getElem_cons_zero, List.getElem_cons_succ, Act.put, List.setIfInBounds_toArray, List.set_cons_zero, List.set_cons_succ]
        refine wpAnyH_take (i := 2) (v := .slice (some ⟨b, off, none⟩) L cap) rfl (by kernel_rfl) (by kernel_rfl) (by kernel_rfl) (fun _ _ _ h => h) (Or.inl ⟨by rfl, by intro W hSw; clear hSw; go_simp⟩) (by assumption) ?_
        try simp only [List.getElem_toArray, List.getElem_cons_zero, List.getElem_cons_succ, Act.put, List.setIfInBounds_toArray, List.set_cons_zero, List.set_cons_succ]
        refine wpAnyH_take (i := 3) (v := .int .i64 (j : Int)) rfl (by kernel_rfl) (by kernel_rfl) (by kernel_rfl) (fun _ _ _ h => h) (Or.inl ⟨by rfl, by intro W hSw; clear hSw; go_simp⟩) (by assumption) ?_
        try simp only [List.getElem_toArray, List.getElem_cons_zero, List.getElem_cons_succ, Act.put, List.setIfInBounds_toArray, List.set_cons_zero, List.set_cons_succ]
        refine wpAnyH_take (i := 4) (v := .pointer (some ⟨b, off + j * 4, none⟩)) rfl (by kernel_rfl) (by kernel_rfl) (by kernel_rfl) (fun _ _ _ h => h) (Or.inl ⟨by rfl, by intro W hSw; clear hSw; go_simp⟩) (by assumption) ?_
        try simp only [List.getElem_toArray, List.getElem_cons_zero, List.getElem_cons_succ, Act.put, List.setIfInBounds_toArray, List.set_cons_zero, List.set_cons_succ]
        refine wpAnyH_take (i := 5) (v := .agg #[.int .i64 kd, .int .i64 at_, .slice sa sn sc, .slice ka kn kc]) rfl (by kernel_rfl) (by kernel_rfl) (by kernel_rfl) (fun _ _ _ h => h) (Or.inl ⟨by rfl, by intro W hSw; obtain ⟨⟨q0, q1, q2, q3, q4⟩, q5, q6, q7, q8⟩ := hSw; go_simp⟩) (by assumption) ?_
        try simp only [List.getElem_toArray, List.getElem_cons_zero, List.getElem_cons_succ, Act.put, List.setIfInBounds_toArray, List.set_cons_zero, List.set_cons_succ]
        refine wpAnyH_ready (rs := [6, 10]) (by kernel_rfl) (by simp) ?_
        refine AllReadyH.cons rfl (fun K hK => ?_) (AllReadyH.cons rfl (fun K hK => ?_) AllReadyH.nil)
        · go_simp
          refine (HDOF.out w5 c5).mono ?_
          rintro e w6 ⟨D4, cv4, v4, rfl, hd6, hr6, hb4, hk4, h41, h42, h43⟩
          obtain ⟨xa4, xn4, xc4, ya4, yn4, yc4, dd4, ai4, dn4, rfl⟩ := ref_agg hr6
          have eb6 : w6.heap[gb]? = wr.heap[gb]? := (hk4.block gb (lt_of_eb eb5 HN.out) NGB.out.1 NGB.out.2.1 NGB.out.2.2).trans eb5
          have ea6 : w6.heap[b]? = wr.heap[b]? := (hb4.block b (by have := HBB.out; omega)).trans ea5
          have bb6 : Below w1.heap.size wr w6 := (c5.mono HWR.out).trans hb4
          have s6 : wr.heap.size ≤ w6.heap.size := bb6.size
          dsimp only
          refine hK.out _ _ (SX.out w6 eb6 ea6) (fun hH6 => ?_)
          clear hK K
          try simp only [List.getElem_toArray, List.getElem_cons_zero, List.getElem_cons_succ, Act.put, List.setIfInBounds_toArray, List.set_cons_zero, List.set_cons_succ]
          refine wpAnyH_take (i := 7) (v := .tuple #[.agg #[.slice xa4 xn4 xc4, .slice ya4 yn4 yc4, .bool dd4, .int .i64 ai4, .int .i64 dn4], .bool true]) rfl (by kernel_rfl) (by kernel_rfl) (by kernel_rfl) (fun _ _ _ h => h) (Or.inl ⟨by rfl, by intro W hSw; clear hSw; go_simp⟩) (by assumption) ?_
          try simp only [List.getElem_toArray, List.getElem_cons_zero, List.getElem_cons_succ, Act.put, List.setIfInBounds_toArray, List.set_cons_zero, List.set_cons_succ]
          refine wpAnyH_take (i := 8) (v := .agg #[.slice xa4 xn4 xc4, .slice ya4 yn4 yc4, .bool dd4, .int .i64 ai4, .int .i64 dn4]) rfl (by kernel_rfl) (by kernel_rfl) (by kernel_rfl) (fun _ _ _ h => h) (Or.inl ⟨by rfl, by intro W hSw; clear hSw; go_simp⟩) (by assumption) ?_
          try simp only [List.getElem_toArray, List.getElem_cons_zero, List.getElem_cons_succ, Act.put, List.setIfInBounds_toArray, List.set_cons_zero, List.set_cons_succ]
          refine wpAnyH_take (i := 9) (v := .bool true) rfl (by kernel_rfl) (by kernel_rfl) (by kernel_rfl) (fun _ _ _ h => h) (Or.inl ⟨by rfl, by intro W hSw; clear hSw; go_simp⟩) (by assumption) ?_
          try simp only [List.getElem_toArray, List.getElem_cons_zero, List.getElem_cons_succ, Act.put, List.setIfInBounds_toArray, List.set_cons_zero, List.set_cons_succ]
          refine wpAnyH_ready (rs := [10]) (by kernel_rfl) (by simp) ?_
          refine AllReadyH.cons rfl (fun K hK => ?_) AllReadyH.nil
          obtain ⟨w7, hw7⟩ : ∃ x, w6.alloc (.cells #[.slice none 0 0, .slice none 0 0, .bool false, .int .i64 0, .int .i64 0] 75) = x := ⟨_, rfl⟩
          have d7 : Below w6.heap.size w6 w7 := by rw [← hw7]; exact below_box w6 _
          have nx7 : w7.heap[w6.heap.size]? = some (.cells zeroR 75 (0, 0)) := by rw [← hw7]; exact heap_alloc_new w6 _
          obtain ⟨gx, hgx⟩ : ∃ x, w6.heap.size = x := ⟨_, rfl⟩
          rw [hgx] at nx7
          have eb7 : w7.heap[gb]? = wr.heap[gb]? := (d7.block gb (lt_of_eb eb6 HN.out)).trans eb6
          have ea7 : w7.heap[b]? = wr.heap[b]? := (d7.block b (lt_of_eb2 ea6 HBL.out)).trans ea6
          have hgxb : gx ≠ gb := by have := lt_of_eb eb6 HN.out; omega
          have HGX : Hid (wr.heap.size ≤ gx) := Lib.hid (by rw [← hgx]; exact s6)
          have s7 : wr.heap.size ≤ w7.heap.size := Nat.le_trans s6 d7.size
          have hd7 := hd6.more d7
          have hr7 := hr6.below d7
          have bb7 := bb6.trans (d7.mono (Nat.le_trans HWR.out s6))
          go_simp
          refine hK.out _ _ (SX.out w7 eb7 ea7) (fun hH7 => ?_)
          clear hK K
          try simp only [List.getElem_toArray, List.getElem_cons_zero, List.getElem_cons_succ, Act.put, List.setIfInBounds_toArray, List.set_cons_zero, List.set_cons_succ]
          have y0 := cell_of_row nx7 0
          have y1 := cell_of_row nx7 1
          have y2 := cell_of_row nx7 2
          have y3 := cell_of_row nx7 3
          have y4 := cell_of_row nx7 4
          have fy := fun i => frozen_of_row w7 gx i _ _ nx7
          have G := (five_set (.slice xa4 xn4 xc4) (.slice ya4 yn4 yc4) (.bool dd4) (.int .i64 ai4) (.int .i64 dn4) nx7).2
          have nz := five_heap (.slice xa4 xn4 xc4) (.slice ya4 yn4 yc4) (.bool dd4) (.int .i64 ai4) (.int .i64 dn4) nx7
          obtain ⟨w9, hw9⟩ : ∃ x, (((((w7.setCell ⟨gx, 0, none⟩ (.slice xa4 xn4 xc4)).setCell ⟨gx, 1, none⟩ (.slice ya4 yn4 yc4)).setCell ⟨gx, 2, none⟩ (.bool dd4)).setCell ⟨gx, 3, none⟩ (.int .i64 ai4)).setCell ⟨gx, 4, none⟩ (.int .i64 dn4)) = x := ⟨_, rfl⟩
          rw [hw9] at G nz
          have eb9 : w9.heap[gb]? = wr.heap[gb]? := (G.block gb (lt_of_eb eb7 HN.out) (by intro e; exact hgxb (Option.some.inj e).symm)).trans eb7
          have ea9 : w9.heap[b]? = wr.heap[b]? := (G.block b (lt_of_eb2 ea7 HBL.out) (by intro e; have h1 : b = gx := Option.some.inj e; have := HGX.out; have := HBB.out; have := HWR.out; omega)).trans ea7
          have HD9 := Lib.hid (hd7.keptR G nx7)
          have HR9 := Lib.hid (hr7.keptR G nx7)
          have BB9 : Hid (Below w1.heap.size wr w9) := Lib.hid (bb7.grown G (Nat.le_trans HWR.out s7) (fun i hi => by obtain rfl := Option.some.inj hi; have := HGX.out; have := HWR.out; omega))
          have NZ := Lib.hid nz
          have HGXB := Lib.hid hgxb
          have NB9 : Hid (w9.heap[gb]? = some (.cells #[.slice xa xn xc, .slice ya yn yc, .bool dd, .int .i64 ai, .int .i64 dn] 75 (0, 0))) := Lib.hid (eb9.trans HN.out)
          refine wpAnyH_ready (rs := [11]) (by kernel_rfl) (by simp) ?_
          refine AllReadyH.cons rfl (fun K hK => ?_) AllReadyH.nil
          go_simp
          refine hK.out _ _ (SX.out w9 eb9 ea9) (fun hH9 => ?_)
          clear hK K hw9
          try simp only [List.getElem_toArray, List.getElem_cons_zero, List.getElem_cons_succ, Act.put, List.setIfInBounds_toArray, List.set_cons_zero, List.set_cons_succ]
          refine wpAnyH_take (i := 12) (v := .bool true) rfl (by kernel_rfl) (by kernel_rfl) (by kernel_rfl) (fun _ _ _ h => h) (Or.inl ⟨by rfl, by intro W hSw; clear hSw; go_simp⟩) (by assumption) ?_
          try simp only [List.getElem_toArray, List.getElem_cons_zero, List.getElem_cons_succ, Act.put, List.setIfInBounds_toArray, List.set_cons_zero, List.set_cons_succ]
          refine wpAnyH_done (by kernel_rfl) ?_ _
          clear hH9
          have p0 : w9.cell? ⟨gx, 0, none⟩ = some (.slice xa4 xn4 xc4) := cell_of_row NZ.out 0
          have p1 : w9.cell? ⟨gx, 1, none⟩ = some (.slice ya4 yn4 yc4) := cell_of_row NZ.out 1
          have p2 : w9.cell? ⟨gx, 2, none⟩ = some (.bool dd4) := cell_of_row NZ.out 2
          have p3 : w9.cell? ⟨gx, 3, none⟩ = some (.int .i64 ai4) := cell_of_row NZ.out 3
          have p4 : w9.cell? ⟨gx, 4, none⟩ = some (.int .i64 dn4) := cell_of_row NZ.out 4
          have HIS := Lib.hid (is3_true HD9.out HR9.out)
          clear y0 y1 y2 y3 y4 fy
          go_wp2_with fail
          refine HIS.out.mono ?_
          rintro e w10 ⟨rfl, b10⟩
          have n10 := (b10.block gx (Array.getElem?_eq_some_iff.1 NZ.out).1).trans NZ.out
          have m10 := (b10.block gb (Array.getElem?_eq_some_iff.1 NB9.out).1).trans NB9.out
          have r0 : w10.cell? ⟨gx, 0, none⟩ = some (.slice xa4 xn4 xc4) := cell_of_row n10 0
          have r1 : w10.cell? ⟨gx, 1, none⟩ = some (.slice ya4 yn4 yc4) := cell_of_row n10 1
          have r2 : w10.cell? ⟨gx, 2, none⟩ = some (.bool dd4) := cell_of_row n10 2
          have r3 : w10.cell? ⟨gx, 3, none⟩ = some (.int .i64 ai4) := cell_of_row n10 3
          have r4 : w10.cell? ⟨gx, 4, none⟩ = some (.int .i64 dn4) := cell_of_row n10 4
          have t0 := cell_of_row m10 0
          have t1 := cell_of_row m10 1
          have t2 := cell_of_row m10 2
          have t3 := cell_of_row m10 3
          have t4 := cell_of_row m10 4
          have ft := fun i => frozen_of_row w10 gb i _ _ m10
          have g11 := (five_set (.slice xa4 xn4 xc4) (.slice ya4 yn4 yc4) (.bool dd4) (.int .i64 ai4) (.int .i64 dn4) m10).2
          have n11 := five_heap (.slice xa4 xn4 xc4) (.slice ya4 yn4 yc4) (.bool dd4) (.int .i64 ai4) (.int .i64 dn4) m10
          obtain ⟨w11, hw11⟩ : ∃ x, (((((w10.setCell ⟨gb, 0, none⟩ (.slice xa4 xn4 xc4)).setCell ⟨gb, 1, none⟩ (.slice ya4 yn4 yc4)).setCell ⟨gb, 2, none⟩ (.bool dd4)).setCell ⟨gb, 3, none⟩ (.int .i64 ai4)).setCell ⟨gb, 4, none⟩ (.int .i64 dn4)) = x := ⟨_, rfl⟩
          rw [hw11] at g11 n11
          have HD11 := Lib.hid ((HD9.out.more b10).keptR g11 m10)
          have HR11 := Lib.hid ((HR9.out.below b10).keptR g11 m10)
          have HN11 := Lib.hid n11
          have HB11 : Hid (Below w.heap.size w w11) := Lib.hid (by
            have h1 := HB.out.trans (BB9.out.mono HW1.out)
            have h2 := h1.trans (b10.mono h1.size)
            exact h2.grown g11 h2.size (fun i hi => by obtain rfl := Option.some.inj hi; have := HW1.out; omega))
          have H41 := Lib.hid (And.intro h42 h43)
          clear n10 m10 g11 n11 b10 p0 p1 p2 p3 p4 h42 h43
          go_wp2
          have h1 := HLT.out
          have h2 := HJ4.out
          go_roundw
          case rel => exact ⟨j + 1, D4, cv4, xa4, xn4, xc4, ya4, yn4, yc4, dd4, ai4, dn4, HLT.out, HJ4.out, by go_num, HD11, HR11, HN11, HB11, by have := H41.out.2; have := HDC.out.1; omega, by have := H41.out.1; have := HDC.out.2; omega⟩
          case measure => simp [intOf]; omega
        · obtain ⟨w6, hw6⟩ : ∃ x, w5.alloc (.cells #[.slice none 0 0, .slice none 0 0, .bool false, .int .i64 0, .int .i64 0] 75) = x := ⟨_, rfl⟩
          have d6 : Below w5.heap.size w5 w6 := by rw [← hw6]; exact below_box w5 _
          have nx6 : w6.heap[w5.heap.size]? = some (.cells zeroR 75 (0, 0)) := by rw [← hw6]; exact heap_alloc_new w5 _
          obtain ⟨gx, hgx⟩ : ∃ x, w5.heap.size = x := ⟨_, rfl⟩
          rw [hgx] at nx6
          have eb6 : w6.heap[gb]? = wr.heap[gb]? := (d6.block gb (lt_of_eb eb5 HN.out)).trans eb5
          have ea6 : w6.heap[b]? = wr.heap[b]? := (d6.block b (lt_of_eb2 ea5 HBL.out)).trans ea5
          have hgxb : gx ≠ gb := by have := lt_of_eb eb5 HN.out; omega
          have HGX : Hid (wr.heap.size ≤ gx) := Lib.hid (by rw [← hgx]; exact s5)
          have s6 : wr.heap.size ≤ w6.heap.size := Nat.le_trans s5 d6.size
          have c6 : Below wr.heap.size wr w6 := below_next c5 d6
          go_simp
          refine hK.out _ _ (SX.out w6 eb6 ea6) (fun hH6 => ?_)
          clear hK K
          try simp only [List.getElem_toArray, List.getElem_cons_zero, List.getElem_cons_succ, Act.put, List.setIfInBounds_toArray, List.set_cons_zero, List.set_cons_succ]
          refine wpAnyH_ready (rs := [6]) (by kernel_rfl) (by simp) ?_
          refine AllReadyH.cons rfl (fun K hK => ?_) AllReadyH.nil
          go_simp
          refine (HDOF.out w6 c6).mono ?_
          rintro e w7 ⟨D4, cv4, v4, rfl, hd7, hr7, hb4, hk4, h41, h42, h43⟩
          obtain ⟨xa4, xn4, xc4, ya4, yn4, yc4, dd4, ai4, dn4, rfl⟩ := ref_agg hr7
          have eb7 : w7.heap[gb]? = wr.heap[gb]? := (hk4.block gb (lt_of_eb eb6 HN.out) NGB.out.1 NGB.out.2.1 NGB.out.2.2).trans eb6
          have ea7 : w7.heap[b]? = wr.heap[b]? := (hb4.block b (by have := HBB.out; omega)).trans ea6
          have bb7 : Below w1.heap.size wr w7 := (c6.mono HWR.out).trans hb4
          have s7 : wr.heap.size ≤ w7.heap.size := bb7.size
          have ng := rbox_ne (HD.out.more c6) nx6
          have nx7 := (hk4.block gx (Array.getElem?_eq_some_iff.1 nx6).1 ng.1 ng.2.1 ng.2.2).trans nx6
          dsimp only
          refine hK.out _ _ (SX.out w7 eb7 ea7) (fun hH7 => ?_)
          clear hK K
          try simp only [List.getElem_toArray, List.getElem_cons_zero, List.getElem_cons_succ, Act.put, List.setIfInBounds_toArray, List.set_cons_zero, List.set_cons_succ]
          refine wpAnyH_take (i := 7) (v := .tuple #[.agg #[.slice xa4 xn4 xc4, .slice ya4 yn4 yc4, .bool dd4, .int .i64 ai4, .int .i64 dn4], .bool true]) rfl (by kernel_rfl) (by kernel_rfl) (by kernel_rfl) (fun _ _ _ h => h) (Or.inl ⟨by rfl, by intro W hSw; clear hSw; go_simp⟩) (by assumption) ?_
          try simp only [List.getElem_toArray, List.getElem_cons_zero, List.getElem_cons_succ, Act.put, List.setIfInBounds_toArray, List.set_cons_zero, List.set_cons_succ]
          refine wpAnyH_take (i := 8) (v := .agg #[.slice xa4 xn4 xc4, .slice ya4 yn4 yc4, .bool dd4, .int .i64 ai4, .int .i64 dn4]) rfl (by kernel_rfl) (by kernel_rfl) (by kernel_rfl) (fun _ _ _ h => h) (Or.inl ⟨by rfl, by intro W hSw; clear hSw; go_simp⟩) (by assumption) ?_
          try simp only [List.getElem_toArray, List.getElem_cons_zero, List.getElem_cons_succ, Act.put, List.setIfInBounds_toArray, List.set_cons_zero, List.set_cons_succ]
          refine wpAnyH_take (i := 9) (v := .bool true) rfl (by kernel_rfl) (by kernel_rfl) (by kernel_rfl) (fun _ _ _ h => h) (Or.inl ⟨by rfl, by intro W hSw; clear hSw; go_simp⟩) (by assumption) ?_
          try simp only [List.getElem_toArray, List.getElem_cons_zero, List.getElem_cons_succ, Act.put, List.setIfInBounds_toArray, List.set_cons_zero, List.set_cons_succ]
          have y0 := cell_of_row nx7 0
          have y1 := cell_of_row nx7 1
          have y2 := cell_of_row nx7 2
          have y3 := cell_of_row nx7 3
          have y4 := cell_of_row nx7 4
          have fy := fun i => frozen_of_row w7 gx i _ _ nx7
          have G := (five_set (.slice xa4 xn4 xc4) (.slice ya4 yn4 yc4) (.bool dd4) (.int .i64 ai4) (.int .i64 dn4) nx7).2
          have nz := five_heap (.slice xa4 xn4 xc4) (.slice ya4 yn4 yc4) (.bool dd4) (.int .i64 ai4) (.int .i64 dn4) nx7
          obtain ⟨w9, hw9⟩ : ∃ x, (((((w7.setCell ⟨gx, 0, none⟩ (.slice xa4 xn4 xc4)).setCell ⟨gx, 1, none⟩ (.slice ya4 yn4 yc4)).setCell ⟨gx, 2, none⟩ (.bool dd4)).setCell ⟨gx, 3, none⟩ (.int .i64 ai4)).setCell ⟨gx, 4, none⟩ (.int .i64 dn4)) = x := ⟨_, rfl⟩
          rw [hw9] at G nz
          have eb9 : w9.heap[gb]? = wr.heap[gb]? := (G.block gb (lt_of_eb eb7 HN.out) (by intro e; exact hgxb (Option.some.inj e).symm)).trans eb7
          have ea9 : w9.heap[b]? = wr.heap[b]? := (G.block b (lt_of_eb2 ea7 HBL.out) (by intro e; have h1 : b = gx := Option.some.inj e; have := HGX.out; have := HBB.out; have := HWR.out; omega)).trans ea7
          have HD9 := Lib.hid (hd7.keptR G nx7)
          have HR9 := Lib.hid (hr7.keptR G nx7)
          have BB9 : Hid (Below w1.heap.size wr w9) := Lib.hid (bb7.grown G (Nat.le_trans HWR.out s7) (fun i hi => by obtain rfl := Option.some.inj hi; have := HGX.out; have := HWR.out; omega))
          have NZ := Lib.hid nz
          have HGXB := Lib.hid hgxb
          have NB9 : Hid (w9.heap[gb]? = some (.cells #[.slice xa xn xc, .slice ya yn yc, .bool dd, .int .i64 ai, .int .i64 dn] 75 (0, 0))) := Lib.hid (eb9.trans HN.out)
          refine wpAnyH_ready (rs := [11]) (by kernel_rfl) (by simp) ?_
          refine AllReadyH.cons rfl (fun K hK => ?_) AllReadyH.nil
          go_simp
          refine hK.out _ _ (SX.out w9 eb9 ea9) (fun hH9 => ?_)
          clear hK K hw9
          try simp only [List.getElem_toArray, List.getElem_cons_zero, List.getElem_cons_succ, Act.put, List.setIfInBounds_toArray, List.set_cons_zero, List.set_cons_succ]
          refine wpAnyH_take (i := 12) (v := .bool true) rfl (by kernel_rfl) (by kernel_rfl) (by kernel_rfl) (fun _ _ _ h => h) (Or.inl ⟨by rfl, by intro W hSw; clear hSw; go_simp⟩) (by assumption) ?_
          try simp only [List.getElem_toArray, List.getElem_cons_zero, List.getElem_cons_succ, Act.put, List.setIfInBounds_toArray, List.set_cons_zero, List.set_cons_succ]
          refine wpAnyH_done (by kernel_rfl) ?_ _
          clear hH9
          have p0 : w9.cell? ⟨gx, 0, none⟩ = some (.slice xa4 xn4 xc4) := cell_of_row NZ.out 0
          have p1 : w9.cell? ⟨gx, 1, none⟩ = some (.slice ya4 yn4 yc4) := cell_of_row NZ.out 1
          have p2 : w9.cell? ⟨gx, 2, none⟩ = some (.bool dd4) := cell_of_row NZ.out 2
          have p3 : w9.cell? ⟨gx, 3, none⟩ = some (.int .i64 ai4) := cell_of_row NZ.out 3
          have p4 : w9.cell? ⟨gx, 4, none⟩ = some (.int .i64 dn4) := cell_of_row NZ.out 4
          have HIS := Lib.hid (is3_true HD9.out HR9.out)
          clear y0 y1 y2 y3 y4 fy
          go_wp2_with fail
          refine HIS.out.mono ?_
          rintro e w10 ⟨rfl, b10⟩
          have n10 := (b10.block gx (Array.getElem?_eq_some_iff.1 NZ.out).1).trans NZ.out
          have m10 := (b10.block gb (Array.getElem?_eq_some_iff.1 NB9.out).1).trans NB9.out
          have r0 : w10.cell? ⟨gx, 0, none⟩ = some (.slice xa4 xn4 xc4) := cell_of_row n10 0
          have r1 : w10.cell? ⟨gx, 1, none⟩ = some (.slice ya4 yn4 yc4) := cell_of_row n10 1
          have r2 : w10.cell? ⟨gx, 2, none⟩ = some (.bool dd4) := cell_of_row n10 2
          have r3 : w10.cell? ⟨gx, 3, none⟩ = some (.int .i64 ai4) := cell_of_row n10 3
          have r4 : w10.cell? ⟨gx, 4, none⟩ = some (.int .i64 dn4) := cell_of_row n10 4
          have t0 := cell_of_row m10 0
          have t1 := cell_of_row m10 1
          have t2 := cell_of_row m10 2
          have t3 := cell_of_row m10 3
          have t4 := cell_of_row m10 4
          have ft := fun i => frozen_of_row w10 gb i _ _ m10
          have g11 := (five_set (.slice xa4 xn4 xc4) (.slice ya4 yn4 yc4) (.bool dd4) (.int .i64 ai4) (.int .i64 dn4) m10).2
          have n11 := five_heap (.slice xa4 xn4 xc4) (.slice ya4 yn4 yc4) (.bool dd4) (.int .i64 ai4) (.int .i64 dn4) m10
          obtain ⟨w11, hw11⟩ : ∃ x, (((((w10.setCell ⟨gb, 0, none⟩ (.slice xa4 xn4 xc4)).setCell ⟨gb, 1, none⟩ (.slice ya4 yn4 yc4)).setCell ⟨gb, 2, none⟩ (.bool dd4)).setCell ⟨gb, 3, none⟩ (.int .i64 ai4)).setCell ⟨gb, 4, none⟩ (.int .i64 dn4)) = x := ⟨_, rfl⟩
          rw [hw11] at g11 n11
          have HD11 := Lib.hid ((HD9.out.more b10).keptR g11 m10)
          have HR11 := Lib.hid ((HR9.out.below b10).keptR g11 m10)
          have HN11 := Lib.hid n11
          have HB11 : Hid (Below w.heap.size w w11) := Lib.hid (by
            have h1 := HB.out.trans (BB9.out.mono HW1.out)
            have h2 := h1.trans (b10.mono h1.size)
            exact h2.grown g11 h2.size (fun i hi => by obtain rfl := Option.some.inj hi; have := HW1.out; omega))
          have H41 := Lib.hid (And.intro h42 h43)
          clear n10 m10 g11 n11 b10 p0 p1 p2 p3 p4 h42 h43
          go_wp2
          have h1 := HLT.out
          have h2 := HJ4.out
          go_roundw
          case rel => exact ⟨j + 1, D4, cv4, xa4, xn4, xc4, ya4, yn4, yc4, dd4, ai4, dn4, HLT.out, HJ4.out, by go_num, HD11, HR11, HN11, HB11, by have := H41.out.2; have := HDC.out.1; omega, by have := H41.out.1; have := HDC.out.2; omega⟩
          case measure => simp [intOf]; omega
      · have hx2 : (j : Int) < (L : Int) := by omega
        have hx3 : ¬ (j : Int) < 40 := by omega
        clear hlt h40 x0 x1 x2 x3 x4
        go_wp2
        go_ret
        exact ⟨rfl, HB.out⟩
    · have hx2 : ¬ (j : Int) < (L : Int) := by omega
      clear hlt x0 x1 x2 x3 x4
      go_wp2
      go_ret
      exact ⟨rfl, HB.out⟩
end Go.Proofs.Ytgakidimipipeaa
