/- The law DrumlinPaths, walked: the way B0. -/
import Derived.Test.YtcpbffmffoneeaaDoorGbchpbajp
import Derived.Lib.QuietBelow
import Derived.Lib.MinMax
namespace Go.Proofs.YtcpbffmffoneeaaDoor
open Go.RowKit Go.Sort
set_option linter.unusedVariables false
set_option linter.unusedSimpArgs false
set_option maxRecDepth 100000

set_option maxHeartbeats 6400000 in
theorem paths_B0 (s : ByteArray) (hs :  300 < s.size) (hs2 : s.size ≤ maxLen) (ab di : Bool) (Q : List Bs) (E : Int) (hp : ∀ W : World, Calls Tryd.prog 5 #[.string (s.extract 0 300)] W (PathPost ab di Q E W)) (hq : Q.length ≤ 32) (hE : E ≠ 0) (hg : E = 0 → ∀ p ∈ Q, goodE p = 0 ∧ p.length ≤ 26)
    (a n : Int) (ha : I64 a) (hn : I64 n) (w : World) (hw : BoundsAt w) :
    Calls Tryd.prog 3 #[.string s, .int .i64 a, .int .i64 n] w fun e w' => e = .returned (.bool true) ∧ Below w.heap.size w w' := by
  have HP := Lib.hid hp
  have HQ := Lib.hid hq
  have HG := Lib.hid hg
  have HA := Lib.hid ha
  have HN := Lib.hid hn
  have HW := Lib.hid hw
  have hszI :  (300 : Int) < (s.size : Int) := by omega
  have hm0 : 0 ≤ max 0 (min n 20000) ∧ max 0 (min n 20000) ≤ 20000 := by omega
  obtain ⟨m, hm⟩ : ∃ m, max 0 (min n 20000) = m := ⟨_, rfl⟩
  rw [hm] at hm0
  have HM := Lib.hid hm
  clear hp hq hg ha hn hw hm
  go_enter Tryd.func3, Tryd.ntmps3
  go_wp2_with fail
  have b0 := below_box w (.cells #[.int .i64 0] 3)
  have n0 := heap_alloc_new w (.cells #[.int .i64 0] 3)
  obtain ⟨wa, hwa⟩ : ∃ x, w.alloc (.cells #[.int .i64 0] 3) = x := ⟨_, rfl⟩
  rw [hwa] at b0 n0
  have hla : w.heap.size < wa.heap.size := (Array.getElem?_eq_some_iff.1 n0).1
  refine (cost_is [0] (some ⟨w.heap.size, 0, none⟩) 1 1 _ (HW.out.below (by rw [hwa]; exact b0)) ⟨rfl, .inr ⟨w.heap.size, 0, rfl, by rw [hwa]; exact hla, fun i hi => by
    obtain rfl : i = 0 := by omega
    rw [hwa]
    exact (cell_of_row n0 0).trans rfl⟩⟩ (fun x hx => by
    obtain rfl : x = 0 := by simpa using hx
    unfold I64; omega) (by decide)).mono ?_
  rintro e w1 ⟨rfl, b⟩
  rw [hwa] at b
  have hcost : costL [0] = 2 := by decide
  rw [hcost]
  have HB : Hid (Below w.heap.size w w1) := Lib.hid (below_next b0 b)
  clear b0 n0 hwa hla b hcost
  go_wp2_with fail
  refine (HP.out w1).mono ?_
  rintro e w2 ⟨pa, pc, rfl, pr, hc1, hc2, b⟩
  have HB2 : Hid (Below w.heap.size w w2) := Lib.hid (HB.out.trans (b.mono HB.out.size))
  clear b HB
  have HB := HB2
  clear HB2
  have HPR := Lib.hid pr
  clear pr
  have bb := below_box w2 (.cells #[.bool ab, .bool di, .slice pa Q.length pc] 25)
  have np := heap_alloc_new w2 (.cells #[.bool ab, .bool di, .slice pa Q.length pc] 25)
  obtain ⟨w3, hw3⟩ : ∃ x, w2.alloc (.cells #[.bool ab, .bool di, .slice pa Q.length pc] 25) = x := ⟨_, rfl⟩
  rw [hw3] at bb np
  have HB3 : Hid (Below w.heap.size w w3) := Lib.hid (HB.out.trans (bb.mono HB.out.size))
  have HPR3 := Lib.hid (HPR.out.below bb)
  have hs3 : w3.heap.size = w2.heap.size + 1 := by rw [← hw3]; simp
  clear HB HPR bb
  have HB := HB3
  have HPR := HPR3
  clear HB3 HPR3
  obtain ⟨gp, hgp⟩ : ∃ g, w2.heap.size = g := ⟨_, rfl⟩
  rw [hgp] at np hs3
  have cp : w3.cell? ⟨gp, 2, none⟩ = some (.slice pa Q.length pc) := (cell_of_row np 2).trans rfl
  clear cp np
  have hE0 : (E != 0) = true := by simpa using hE
  have hE1 : (E == 0) = false := beq_eq_false_iff_ne.2 hE
  have hmm := HM.out
  go_wp2_with fail
  refine (pcut_is a m w3 HA.out (by unfold I64; omega)).mono ?_
  rintro e wc ⟨vc, rfl, oc, b⟩
  have HBc : Hid (Below w.heap.size w wc) := Lib.hid (HB.out.trans (b.mono HB.out.size))
  clear HB b hmm
  by_cases hce : cutE a m = 0
  · obtain ⟨ha0, hae⟩ := cutE_zero hm0.1 hce
    rw [cutRows_ok hce] at oc
    obtain ⟨pv, pcp, rfl, hpc⟩ := pieces_at oc
    have HPC := Lib.hid hpc
    have HPF := Lib.hid (fun (k : Nat) (h : k < cutN a (a + m)) => piece_facts ha0 hae h)
    have HN0 := Lib.hid (cut_room ha0 hae (by omega : a ≤ a + m))
    have hN1064 := cutN_le ha0 hae
    have hz0 := posI_zero (show a ≤ a + m by omega)
    have HZN : Hid (posI a (a + m) (cutN a (a + m)) = a + m) := Lib.hid (posI_out (Nat.lt_irrefl _))
    have HBK : Hid (0 < m → 0 < cutN a (a + m) ∧ blocksI (a + m) = a / 128 + ((cutN a (a + m) : Int) - 1) + 1) := Lib.hid (fun h => blocks_last ha0 (by omega))
    have HI0 : Hid (0 ≤ a / 128) := Lib.hid (by omega)
    obtain ⟨N, hN⟩ : ∃ N, cutN a (a + m) = N := ⟨_, rfl⟩
    rw [hN] at HPC HPF HN0 hN1064 HZN HBK ⊢
    have HS0 : Hid (a - a = 0) := Lib.hid (by omega)
    rw [hce]
    clear oc hpc hN hce
    go_wp2_with fail
    go_loopw [18, 19, 20, 104] (fun lx t _ i wr => ∃ (lv : Value) (k : Nat) (tt : Int), lv = lx ∧ k ≤ N ∧ i = .int .i64 (k : Int) ∧ tt = posI a (a + m) k - a ∧ t = .int .i64 tt ∧ Hid (OwnsV wc.heap.size wr 3 lv (intsV (consL (a / 128) k))) ∧ Hid (Below wc.heap.size wc wr)) (fun _ _ _ i _ => N - (intOf i).toNat)
    case atStart => exact ⟨_, 0, 0, rfl, Nat.zero_le _, rfl, by rw [hz0]; exact HS0.out.symm, rfl, Lib.hid (OwnsV.nil _ _ _), Lib.hid (Below.refl _ _)⟩
    case round =>
      obtain ⟨lv, k, tt, rfl, hk, rfl, htt, rfl, HO, HBL⟩ := hrel
      by_cases hlt : k < N
      · have hltI : (k : Int) < (N : Int) := by omega
        obtain ⟨gq, rfl, hgq, e0, e1, e2⟩ := HPC.out k hlt
        obtain ⟨f1, f2, f3, f4, f5, f6, f7⟩ := HPF.out k hlt
        have HPREV : Hid (∀ k', k = k' + 1 → (wc.cell? ⟨gq, k' * 3, none⟩ = some (.int .i64 (a / 128 + (k' : Int))) ∧ wc.cell? ⟨gq, k' * 3 + 2, none⟩ = some (.int .i64 128))) := Lib.hid (fun k' hk' => by
          obtain ⟨g2, hg2, _, p0, _, p2⟩ := HPC.out k' (by omega)
          obtain ⟨r1, _, _, _, r5, _, _⟩ := HPF.out k' (by omega)
          cases hg2
          rw [r1] at p0
          rw [r5 (by omega)] at p2
          exact ⟨p0, p2⟩)
        generalize (pieceP a (a + m) k).1 = x at *
        generalize (pieceP a (a + m) k).2.1 = y at *
        generalize (pieceP a (a + m) k).2.2 = z at *
        have d0 := (HBL.out.cell (p := ⟨gq, k * 3, none⟩) hgq).trans e0
        have d1 := (HBL.out.cell (p := ⟨gq, k * 3 + 1, none⟩) hgq).trans e1
        have d2 := (HBL.out.cell (p := ⟨gq, k * 3 + 2, none⟩) hgq).trans e2
        have hgr := Nat.lt_of_lt_of_le hgq HBL.out.size
        have bx := below_box wr (.cells #[.int .i64 x, .int .i64 y, .int .i64 z] 44)
        have nx := heap_alloc_new wr (.cells #[.int .i64 x, .int .i64 y, .int .i64 z] 44)
        have HBX : Hid (Below wc.heap.size wc (wr.alloc (.cells #[.int .i64 x, .int .i64 y, .int .i64 z] 44))) := Lib.hid (HBL.out.alloc HBL.out.size _)
        have HOX := Lib.hid (HO.out.alloc (.cells #[.int .i64 x, .int .i64 y, .int .i64 z] 44))
        have HLT := Lib.hid hgq
        have HF1 := Lib.hid f1
        have HF6 := Lib.hid (And.intro f6 htt)
        have httb : 0 ≤ tt ∧ tt ≤ 136192 := by omega
        clear f1 f5 f6 f7 htt
        clear e0 e1 e2 bx
        rcases Nat.lt_or_ge k 1 with hkp | hkp
        · skip
          have hgt : ¬ (0 : Int) < (k : Int) := by omega
          have hdk : decide ((0 : Int) < (k : Int)) = false := decide_eq_false hgt
          have hdk2 : decide (0 < k) = false := decide_eq_false (by omega)
          clear HPREV
          have X0 : (wr.alloc (.cells #[.int .i64 x, .int .i64 y, .int .i64 z] 44)).cell? ⟨wr.heap.size, 0, none⟩ = some (.int .i64 x) := (cell_of_row nx 0).trans rfl
          have X1 : (wr.alloc (.cells #[.int .i64 x, .int .i64 y, .int .i64 z] 44)).cell? ⟨wr.heap.size, 1, none⟩ = some (.int .i64 y) := (cell_of_row nx 1).trans rfl
          have X2 : (wr.alloc (.cells #[.int .i64 x, .int .i64 y, .int .i64 z] 44)).cell? ⟨wr.heap.size, 2, none⟩ = some (.int .i64 z) := (cell_of_row nx 2).trans rfl
          obtain ⟨wx, hwx0⟩ : ∃ v, wr.alloc (.cells #[.int .i64 x, .int .i64 y, .int .i64 z] 44) = v := ⟨_, rfl⟩
          rw [hwx0] at X0 X1 X2 nx HBX HOX
          have hsx : wr.heap.size < wx.heap.size := (Array.getElem?_eq_some_iff.1 nx).1
          have hq0 := cell_regrown X0
          have hq1 := cell_regrown X1
          have hq2 := cell_regrown X2
          have hzy : ¬ z ≤ y := by omega
          have hdz : decide (z ≤ y) = false := decide_eq_false hzy
          have hz128 : ¬ (128 : Int) < z := by omega
          have hdz2 : decide ((128 : Int) < z) = false := decide_eq_false hz128
          have hkI : (0 : Int) ≤ (k : Int) := by omega
          go_wp2_with fail
          refine wp_region_quiet_below (by kernel_rfl) (by kernel_rfl) ?_
          repeat (go_big_quiet_step (fail))
          refine wpQuiet_nil (regrown_name fun w20 b => ?_)
          have Y0 := (b.cell (p := ⟨wr.heap.size, 0, none⟩) hsx).trans X0
          have ny := (b.block wr.heap.size hsx).trans nx
          have HO20 := Lib.hid (HOX.out.below b)
          have HB20 : Hid (Below wc.heap.size wc w20) := Lib.hid (HBX.out.trans (b.mono HBX.out.size))
          have hs20 : wr.heap.size < w20.heap.size := Nat.lt_of_lt_of_le hsx b.size
          have HOLT : Hid (∀ q, lv.ownBlock = some q → q < wr.heap.size) := Lib.hid (fun q hq => (HO.out.lt q hq).2)
          have hcl : (intsV (consL (a / 128) k)).length = k := by rw [intsV_length, consL_length]
          have HCL := Lib.hid hcl
          have hzyw : IntKind.i64.wrap (z - y) = z - y := IntWalk.i64_in _ (by omega)
          have httw : IntKind.i64.wrap (tt + (z - y)) = tt + (z - y) := IntWalk.i64_in _ (by omega)
          clear hq0 hq1 hq2 X0 X1 X2 b hwx0 hcl d0 d1 d2 HOX HBX HO
          go_wp2_with (at_builtin; refine wpList_append_vals rfl _ _ _ rfl wc.heap.size 3 _ 8 Tryd.underlying42 info_int rfl lv (intsV (consL (a / 128) k)) rfl (HO20.out.alloc _) (some ⟨w20.heap.size, 0, none⟩) 1 1 rfl (intsV [x]) (ReadsV.lit w20 #[.int .i64 x] 3) (intsV_one [x]) (by rw [HCL.out]; omega) (by rw [HCL.out]; unfold maxLen; omega) (by have := HB20.out.size; simp; omega) ?_; intro v4 w4x h1' h2'; have O4 := Lib.hid (show OwnsV wc.heap.size w4x 3 v4 (intsV (consL (a / 128) (k + 1))) from by rw [consL_succ, ← HF1.out, intsV_append]; exact h1'); have G4 := Lib.hid (OwnsV.grown (HO20.out.alloc (.cells #[.int .i64 x] 3)) (HB20.out.alloc HB20.out.size _) (by have := HB20.out.size; simp; omega) h2'); have nz := (h2'.block wr.heap.size (by simp; omega) (fun e => by have := HOLT.out _ e.symm; omega)).trans ((Below.heap_alloc w20 (.cells #[.int .i64 x] 3) wr.heap.size hs20).trans ny); have Z1 : w4x.cell? ⟨wr.heap.size, 1, none⟩ = some (.int .i64 y) := (cell_of_row nz 1).trans rfl; have Z2 : w4x.cell? ⟨wr.heap.size, 2, none⟩ = some (.int .i64 z) := (cell_of_row nz 2).trans rfl; clear h1' h2' nz)
          go_roundw
          case rel => exact ⟨_, k + 1, tt + (z - y), rfl, by omega, by go_num, by have := HF6.out.1; have := HF6.out.2; omega, rfl, O4, G4⟩
          case measure => simp [intOf]; omega
        · skip
          have hgt : (0 : Int) < (k : Int) := by omega
          have hdk : decide ((0 : Int) < (k : Int)) = true := decide_eq_true hgt
          have hdk2 : decide (0 < k) = true := decide_eq_true hkp
          obtain ⟨k', hk'⟩ : ∃ k', k = k' + 1 := ⟨k - 1, by omega⟩
          obtain ⟨p0, p2⟩ := HPREV.out k' hk'
          have hy0 : y = 0 := f4 hkp
          have hyb : (y != 0) = false := by rw [hy0]; rfl
          clear hy0
          have hwk : IntKind.i64.wrap ((k : Int) - 1) = (k' : Int) := by rw [IntWalk.i64_in _ (by omega)]; omega
          have hwx : IntKind.i64.wrap (a / 128 + (k' : Int) + 1) = x := by rw [HF1.out, IntWalk.i64_in _ (by have := HI0.out; omega)]; omega
          have hxx : (x != x) = false := by simp
          have hpI : (0 : Int) ≤ (k' : Int) ∧ (k' : Int) < (N : Int) := by omega
          clear hk'
          have P0 := (HBX.out.cell (p := ⟨gq, k' * 3, none⟩) HLT.out).trans p0
          have P2 := (HBX.out.cell (p := ⟨gq, k' * 3 + 2, none⟩) HLT.out).trans p2
          have hr0 := cell_regrown P0
          have hr2 := cell_regrown P2
          clear p0 p2
          clear HPREV
          have X0 : (wr.alloc (.cells #[.int .i64 x, .int .i64 y, .int .i64 z] 44)).cell? ⟨wr.heap.size, 0, none⟩ = some (.int .i64 x) := (cell_of_row nx 0).trans rfl
          have X1 : (wr.alloc (.cells #[.int .i64 x, .int .i64 y, .int .i64 z] 44)).cell? ⟨wr.heap.size, 1, none⟩ = some (.int .i64 y) := (cell_of_row nx 1).trans rfl
          have X2 : (wr.alloc (.cells #[.int .i64 x, .int .i64 y, .int .i64 z] 44)).cell? ⟨wr.heap.size, 2, none⟩ = some (.int .i64 z) := (cell_of_row nx 2).trans rfl
          obtain ⟨wx, hwx0⟩ : ∃ v, wr.alloc (.cells #[.int .i64 x, .int .i64 y, .int .i64 z] 44) = v := ⟨_, rfl⟩
          rw [hwx0] at X0 X1 X2 nx HBX HOX P0 P2 hr0 hr2
          have hsx : wr.heap.size < wx.heap.size := (Array.getElem?_eq_some_iff.1 nx).1
          have hq0 := cell_regrown X0
          have hq1 := cell_regrown X1
          have hq2 := cell_regrown X2
          have hzy : ¬ z ≤ y := by omega
          have hdz : decide (z ≤ y) = false := decide_eq_false hzy
          have hz128 : ¬ (128 : Int) < z := by omega
          have hdz2 : decide ((128 : Int) < z) = false := decide_eq_false hz128
          have hkI : (0 : Int) ≤ (k : Int) := by omega
          go_wp2_with fail
          refine wp_region_quiet_below (by kernel_rfl) (by kernel_rfl) ?_
          repeat (go_big_quiet_step (fail))
          refine wpQuiet_nil (regrown_name fun w20 b => ?_)
          have Y0 := (b.cell (p := ⟨wr.heap.size, 0, none⟩) hsx).trans X0
          have ny := (b.block wr.heap.size hsx).trans nx
          have HO20 := Lib.hid (HOX.out.below b)
          have HB20 : Hid (Below wc.heap.size wc w20) := Lib.hid (HBX.out.trans (b.mono HBX.out.size))
          have hs20 : wr.heap.size < w20.heap.size := Nat.lt_of_lt_of_le hsx b.size
          have HOLT : Hid (∀ q, lv.ownBlock = some q → q < wr.heap.size) := Lib.hid (fun q hq => (HO.out.lt q hq).2)
          have hcl : (intsV (consL (a / 128) k)).length = k := by rw [intsV_length, consL_length]
          have HCL := Lib.hid hcl
          have hzyw : IntKind.i64.wrap (z - y) = z - y := IntWalk.i64_in _ (by omega)
          have httw : IntKind.i64.wrap (tt + (z - y)) = tt + (z - y) := IntWalk.i64_in _ (by omega)
          clear hq0 hq1 hq2 X0 X1 X2 b hwx0 hcl d0 d1 d2 HOX HBX HO P0 P2 hr0 hr2
          go_wp2_with (at_builtin; refine wpList_append_vals rfl _ _ _ rfl wc.heap.size 3 _ 8 Tryd.underlying42 info_int rfl lv (intsV (consL (a / 128) k)) rfl (HO20.out.alloc _) (some ⟨w20.heap.size, 0, none⟩) 1 1 rfl (intsV [x]) (ReadsV.lit w20 #[.int .i64 x] 3) (intsV_one [x]) (by rw [HCL.out]; omega) (by rw [HCL.out]; unfold maxLen; omega) (by have := HB20.out.size; simp; omega) ?_; intro v4 w4x h1' h2'; have O4 := Lib.hid (show OwnsV wc.heap.size w4x 3 v4 (intsV (consL (a / 128) (k + 1))) from by rw [consL_succ, ← HF1.out, intsV_append]; exact h1'); have G4 := Lib.hid (OwnsV.grown (HO20.out.alloc (.cells #[.int .i64 x] 3)) (HB20.out.alloc HB20.out.size _) (by have := HB20.out.size; simp; omega) h2'); have nz := (h2'.block wr.heap.size (by simp; omega) (fun e => by have := HOLT.out _ e.symm; omega)).trans ((Below.heap_alloc w20 (.cells #[.int .i64 x] 3) wr.heap.size hs20).trans ny); have Z1 : w4x.cell? ⟨wr.heap.size, 1, none⟩ = some (.int .i64 y) := (cell_of_row nz 1).trans rfl; have Z2 : w4x.cell? ⟨wr.heap.size, 2, none⟩ = some (.int .i64 z) := (cell_of_row nz 2).trans rfl; clear h1' h2' nz)
          go_roundw
          case rel => exact ⟨_, k + 1, tt + (z - y), rfl, by omega, by go_num, by have := HF6.out.1; have := HF6.out.2; omega, rfl, O4, G4⟩
          case measure => simp [intOf]; omega
      · obtain rfl : k = N := by omega
        have hltI : ¬ (k : Int) < (k : Int) := by omega
        have hcl : (intsV (consL (a / 128) k)).length = k := by rw [intsV_length, consL_length]
        obtain ⟨la, lc, rfl, hlr, hl1, hl2⟩ := HO.out.reads
        rw [hcl] at hlr hl1 ⊢
        have HBW : Hid (Below w.heap.size w wr) := Lib.hid (HBc.out.trans (HBL.out.mono HBc.out.size))
        have hroom := costL_room (i := a / 128) HI0.out (m := k) HN0.out
        have HCO := Lib.hid (cost_is (consL (a / 128) k) la k lc wr (HW.out.below HBW.out) (readsI_of_V hlr) (fun x hx => by
          have := consL_mem.1 hx
          have := HN0.out
          have := HI0.out
          unfold I64; omega) (by omega))
        obtain ⟨c, hc⟩ : ∃ c, costL (consL (a / 128) k) = c := ⟨_, rfl⟩
        rw [hc] at HCO hroom
        obtain ⟨ci, hci⟩ : ∃ ci : Int, (c : Int) = ci := ⟨_, rfl⟩
        rw [hci] at HCO
        have hc1 : (k : Int) + 1 ≤ ci := by omega
        have hc2 : ci ≤ (k : Int) + 3 + ((k / 32 : Nat) : Int) + 1 := by omega
        have htm : tt = m := by rw [htt, HZN.out]; omega
        subst htm
        have hmm2 : (tt == tt) = true := by simp
        have hw1 : IntKind.i64.wrap ((k : Int) + 1) = (k : Int) + 1 := IntWalk.i64_in _ (by omega)
        have hw3 : IntKind.i64.wrap ((k : Int) + 3) = (k : Int) + 3 := IntWalk.i64_in _ (by omega)
        have hdv : (k : Int).tdiv 32 = ((k / 32 : Nat) : Int) := by rw [Int.ofNat_tdiv]; rfl
        obtain ⟨dv, hdve⟩ : ∃ dv : Int, ((k / 32 : Nat) : Int) = dv := ⟨_, rfl⟩
        rw [hdve] at hdv hc2
        have hdvb : 0 ≤ dv ∧ dv ≤ 100 := by omega
        have hwd : IntKind.i64.wrap dv = dv := IntWalk.i64_in _ (by omega)
        have hw4 : IntKind.i64.wrap ((k : Int) + 3 + dv) = (k : Int) + 3 + dv := IntWalk.i64_in _ (by omega)
        have hw5 : IntKind.i64.wrap ((k : Int) + 3 + dv + 1) = (k : Int) + 3 + dv + 1 := IntWalk.i64_in _ (by omega)
        have hdc1 : decide ((k : Int) + 1 ≤ ci) = true := decide_eq_true hc1
        have hdc2 : decide (ci ≤ (k : Int) + 3 + dv + 1) = true := decide_eq_true hc2
        have hwam : IntKind.i64.wrap (a + tt) = a + tt := IntWalk.i64_in _ (by omega)
        have hz32 : ((32 : Int) == 0) = false := rfl
        have HBKS := Lib.hid (fun W : World => (pblocks_is (a + tt) W (by unfold I64; omega)).mono (R' := fun e w' => e = .returned (.int .i64 (blocksI (a + tt))) ∧ Below W.heap.size W w') (by rintro e w' ⟨h1, rfl⟩; exact ⟨h1, Below.refl _ _⟩))
        have HCC := Lib.hid (And.intro hci hdve)
        have HLR := Lib.hid hlr
        clear hc hci hdve hroom htt HO HBL hlr hl1 hcl hc1 hc2 hdvb
        go_wp2_with fail
        refine HCO.out.mono ?_
        rintro e w6 ⟨rfl, b⟩
        have HB6 : Hid (Below w.heap.size w w6) := Lib.hid (HBW.out.trans (b.mono HBW.out.size))
        have HLR6 := Lib.hid (HLR.out.below b)
        clear b HLR HCO
        by_cases hm00 : tt = 0
        · have hmz : (tt == 0) = true := by rw [hm00]; rfl
          have HM00 := Lib.hid hm00
          clear hm00 HBKS
          go_wp2_with fail
          refine wp_region_quiet_below (by kernel_rfl) (by kernel_rfl) ?_
          repeat (go_big_quiet_step (fail))
          refine wpQuiet_nil (regrown_name fun w20 b => ?_)
          have HBZ : Hid (Below w.heap.size w w20) := HB6.out.trans (b.mono HB6.out.size)
          go_wp2
          go_ret
          exact ⟨by simp, HBZ.out⟩
        · have hmz : (tt == 0) = false := beq_eq_false_iff_ne.2 hm00
          obtain ⟨hkpos, hblk⟩ := HBK.out (by omega)
          obtain ⟨k1, hk1⟩ : ∃ k1, k = k1 + 1 := ⟨k - 1, by omega⟩
          obtain ⟨lg, loff, rfl, hlg, hlc⟩ := HLR6.out.at (i := k1) (u := .int .i64 (a / 128 + (k1 : Int))) (by unfold intsV; rw [List.getElem?_map, consL_get (by omega)]; rfl)
          rw [hblk] at HBKS
          have hwk1 : IntKind.i64.wrap ((k : Int) - 1) = (k1 : Int) := by rw [IntWalk.i64_in _ (by omega)]; omega
          have hk1I : (0 : Int) ≤ (k1 : Int) ∧ (k1 : Int) < (k : Int) := by omega
          have hlast : a / 128 + (k1 : Int) = a / 128 + ((k : Int) - 1) := by omega
          rw [hlast] at hlc
          obtain ⟨lx, hlx⟩ : ∃ lx, a / 128 + ((k : Int) - 1) = lx := ⟨_, rfl⟩
          rw [hlx] at hlc HBKS
          have hwlx : IntKind.i64.wrap (lx + 1) = lx + 1 := by
            have := HI0.out
            have := HN0.out
            exact IntWalk.i64_in _ (by omega)
          have hlxx : (lx + 1 == lx + 1) = true := by simp
          have hlcr := cell_regrown hlc
          clear hblk hk1 hlast hlx hm00
          go_wp2_with fail
          refine wp_region_quiet_below (by kernel_rfl) (by kernel_rfl) ?_
          repeat (go_big_quiet_step ((go_at_call 10; exact Calls.regrown_of (HBKS.out _))))
          refine wpQuiet_nil (regrown_name fun w20 b => ?_)
          have HBZ : Hid (Below w.heap.size w w20) := HB6.out.trans (b.mono HB6.out.size)
          go_wp2
          go_ret
          exact ⟨by simp, HBZ.out⟩
  · rw [cutRows_none hce] at oc
    obtain ⟨pv, pcp, rfl, _⟩ := rows_at oc
    have hor := cutE_not hm0.1 hce
    obtain ⟨E2, hE2⟩ : ∃ x, cutE a m = x := ⟨_, rfl⟩
    rw [hE2] at hce ⊢
    have hne : (E2 != 0) = true := by simpa using hce
    have hsub : IntKind.i64.wrap (136192 - m) = 136192 - m := IntWalk.i64_in _ (by omega)
    clear oc hce hE2
    by_cases hneg : a < 0
    · have hd0 : decide (a < 0) = true := decide_eq_true hneg
      go_wp2
      go_ret
      exact ⟨by simp, HBc.out⟩
    · have hd0 : decide (a < 0) = false := decide_eq_false hneg
      have hbig : 136192 - m < a := by omega
      have hd1 : decide (136192 - m < a) = true := decide_eq_true hbig
      go_wp2
      go_ret
      exact ⟨by simp, HBc.out⟩
end Go.Proofs.YtcpbffmffoneeaaDoor
