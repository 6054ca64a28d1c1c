/- The law's 'is': a table is the document's. -/
import Derived.Test.YtnlbjpnhepdicaaTab5
import Derived.Laws.StructEq
import Derived.WalkLawsBesides
import Derived.Deep.LoopGhost
import Derived.Deep.RegionWith
import Derived.Deep.DeepCutAuto
namespace Go.Proofs.Ytnlbjpnhepdicaa
open Go.RowKit Go.Sort
set_option linter.unusedVariables false
set_option linter.unusedSimpArgs false
set_option maxRecDepth 100000

theorem run_neq_use (u : UseD) (w : World) : (binOp .neq 46 (.agg #[.int .i64 u.live, .int .i64 u.state, .int .u32 u.age]) (.agg #[.int .i64 u.live, .int .i64 u.state, .int .u32 u.age])).run Try.prog w = .ok (.bool false) w := by
  go_simp
theorem told_is (u : UseD) (w : World) : Calls Try.prog 81 #[.agg #[.int .i64 u.live, .int .i64 u.state, .int .u32 u.age]] w fun e w' => e = .returned (.agg #[.int .i64 u.live, .int .i64 u.state, .int .u32 u.age]) ∧ Below w.heap.size w w' := by
  go_enter Try.func81, Try.ntmps81
  go_wp2
  refine bodyPost_ret (v := .agg #[.int .i64 u.live, .int .i64 u.state, .int .u32 u.age]) (by simp [results, Try.results81, go_sem]) rfl ⟨rfl, ((Below.refl _ _).alloc (Nat.le_refl _) _).alloc (by simp) _⟩
/-- How many of the first k are clean; the first one. -/
def cleanTo (us : List UseD) (k : Nat) : Nat := (placesL (fun u : UseD => u.state == 0) us k).length
def firstTo (us : List UseD) (k : Nat) : Int := match placesL (fun u : UseD => u.state == 0) us k with | [] => -1 | i :: _ => (i : Int)
theorem cleanTo_yes {us : List UseD} {k : Nat} {u : UseD} (h : us[k]? = some u) (hs : (u.state == 0) = true) : cleanTo us (k + 1) = cleanTo us k + 1 := by unfold cleanTo; rw [placesL_yes h hs, List.length_append]; rfl
theorem cleanTo_no {us : List UseD} {k : Nat} {u : UseD} (h : us[k]? = some u) (hs : (u.state == 0) = false) : cleanTo us (k + 1) = cleanTo us k := by unfold cleanTo; rw [placesL_no h hs]
theorem firstTo_first {us : List UseD} {k : Nat} {u : UseD} (h : us[k]? = some u) (hs : (u.state == 0) = true) (h0 : firstTo us k < 0) : firstTo us (k + 1) = (k : Int) := by
  unfold firstTo at h0 ⊢
  rw [placesL_yes h hs]
  cases hp : placesL (fun u : UseD => u.state == 0) us k with
  | nil => rfl
  | cons i l => rw [hp] at h0; exact absurd h0 (Int.not_lt.2 (Int.natCast_nonneg i))
theorem firstTo_later {us : List UseD} {k : Nat} {u : UseD} (h : us[k]? = some u) (hs : (u.state == 0) = true) (h0 : ¬ firstTo us k < 0) : firstTo us (k + 1) = firstTo us k := by
  unfold firstTo at h0 ⊢
  rw [placesL_yes h hs]
  cases hp : placesL (fun u : UseD => u.state == 0) us k with
  | nil => rw [hp] at h0; exact absurd (by decide) h0
  | cons i l => rfl
theorem firstTo_no {us : List UseD} {k : Nat} {u : UseD} (h : us[k]? = some u) (hs : (u.state == 0) = false) : firstTo us (k + 1) = firstTo us k := by unfold firstTo; rw [placesL_no h hs]
theorem cleanTo_le (us : List UseD) (k : Nat) : cleanTo us k ≤ k := placesL_length _ _ _
theorem firstTo_ge (us : List UseD) (k : Nat) : -1 ≤ firstTo us k ∧ firstTo us k ≤ k := by
  unfold firstTo
  cases hp : placesL (fun u : UseD => u.state == 0) us k with
  | nil => exact ⟨by show (-1 : Int) ≤ -1; omega, by show (-1 : Int) ≤ (k : Int); omega⟩
  | cons i l =>
    have := (placesL_mem (p := fun u : UseD => u.state == 0) (l := us) (k := k) (i := i) (by rw [hp]; simp)).1
    simp
    omega
set_option maxHeartbeats 4000000 in
theorem is_true {B : Nat} {w : World} {g gs : Nat} {room : Int} {us : List UseD} (h : IsTab B w g gs room us) (rm : Int) (a : Option Addr) (cap : Nat) (hr : ReadsR w a 3 (usesV us)) :
    Calls Try.prog 27 #[.pointer (some ⟨g, 0, none⟩), .agg #[.int .i64 rm, .slice a us.length cap]] w fun e w' => e = .returned (.bool true) ∧ Below w.heap.size w w' := by
  have hlen := h.2.2.2.2.2.2.1
  have hlen1 := h.2.2.2.2.2.1
  obtain ⟨l1, l2⟩ := tab_lt h
  obtain ⟨W1, hW1⟩ : ∃ W1, w.alloc (.cells #[.int .i64 rm, .slice a us.length cap] 59) = W1 := ⟨_, rfl⟩
  have b1 := below_box w (.cells #[.int .i64 rm, .slice a us.length cap] 59)
  have hn1 := heap_alloc_new w (.cells #[.int .i64 rm, .slice a us.length cap] 59)
  have hsz : W1.heap.size = w.heap.size + 1 := by rw [← hW1]; simp
  rw [hW1] at b1 hn1
  have c1 : W1.cell? ⟨w.heap.size, 1, none⟩ = some (.slice a us.length cap) := by unfold World.cell?; rw [hn1]; rfl
  have HT := Lib.hid (fun W (hW : Below W1.heap.size W1 W) => (h.below b1).below hW)
  have HRd := Lib.hid (fun W (hW : Below W1.heap.size W1 W) => (hr.below b1).below hW)
  have HC := Lib.hid (fun W (hW : Below W1.heap.size W1 W) => (hW.cell (p := ⟨w.heap.size, 1, none⟩) (by rw [hsz]; simp)).trans c1)
  have hbd := liveTo_bound h.2.2.2
  have HBD := Lib.hid hbd
  have HB1 := Lib.hid b1
  obtain ⟨n, hnn⟩ : ∃ n, us.length = n := ⟨_, rfl⟩
  have HN := Lib.hid hnn
  have HW1 := Lib.hid hW1
  rw [hnn] at c1 hlen hlen1 HC HW1 ⊢
  have hne : ((n : Int) != (n : Int)) = false := by simp
  have HSZ := Lib.hid hsz
  clear h hr b1 hn1 hnn hW1 hsz hbd
  go_enter Try.func27, Try.ntmps27
  go_wp2_with fail
  have hw := HW1.out
  rw [hw]
  clear hw
  go_region_held3 (fun w' => w'.cell? ⟨w.heap.size, 1, none⟩ = some (.slice a n cap) ∧ Below W1.heap.size W1 w')
    (first | assumption | exact ⟨c1, Below.refl _ _⟩ | exact ⟨c1, below_drew _⟩ | exact ⟨HC.out _ (below_next (And.right (by assumption)) bU), below_next (And.right (by assumption)) bU⟩)
    ((first
      | (go_at_call 79; (with_reducible refine (tsegs_is (HT.out _ (And.right (by assumption)))).mono ?_); rintro e wi ⟨rfl, rfl⟩; rw [HN.out])
      | (go_at_call 34; (with_reducible refine (tuses_is (HT.out _ (And.right (by assumption)))).mono ?_); rintro e wi ⟨v, rfl, ho, bU⟩; obtain ⟨aU, cU, rfl, _, _, _⟩ := ho.reads; rw [usesV_length, HN.out])))
  rename_i hHeld
  have HB2 := Lib.hid hHeld.2
  have c2 := hHeld.1
  clear hHeld bU c1
  generalize wi = w2 at *
  go_wp2
  go_loopw [5, 6, 7, 32] (fun x5 x6 x7 x32 wr => ∃ k : Nat, k ≤ n ∧ x32 = .int .i64 k ∧ x5 = .int .i64 (cleanTo us k : Int) ∧ x6 = .int .i64 (firstTo us k) ∧ x7 = .int .i64 (liveTo us k) ∧ Hid (Below W1.heap.size W1 wr)) (fun _ _ _ i _ => n - (intOf i).toNat)
  case atStart => exact ⟨0, Nat.zero_le _, rfl, rfl, rfl, rfl, HB2.out⟩
  case round =>
    obtain ⟨k, hk, rfl, rfl, rfl, rfl, HB⟩ := hrel
    by_cases hlt : k < n
    · obtain ⟨u, hrow⟩ : ∃ r, us[k]? = some r := ⟨_, List.getElem?_eq_getElem (by rw [HN.out]; exact hlt)⟩
      have HROW := Lib.hid hrow
      obtain ⟨b, off, rfl, hb, hc⟩ := (HRd.out _ HB.out).row (usesV_get hrow)
      have d0 : wr.cell? ⟨b, off + k * 3, none⟩ = some (.int .i64 u.live) := hc 0 _ rfl
      have d1 : wr.cell? ⟨b, off + k * 3 + 1, none⟩ = some (.int .i64 u.state) := by have := hc 1 _ rfl; rwa [← Nat.add_assoc] at this
      have d2 : wr.cell? ⟨b, off + k * 3 + 2, none⟩ = some (.int .u32 u.age) := by have := hc 2 _ rfl; rwa [← Nat.add_assoc] at this
      have hx1 : (0 : Int) ≤ (k : Int) := by omega
      have hx2 : (k : Int) < (n : Int) := by omega
      obtain ⟨Wa, hWa⟩ : ∃ Wa, wr.alloc (.cells #[.int .i64 u.live, .int .i64 u.state, .int .u32 u.age] 46) = Wa := ⟨_, rfl⟩
      have ba := below_box wr (.cells #[.int .i64 u.live, .int .i64 u.state, .int .u32 u.age] 46)
      have xa := box3_new wr (.int .i64 u.live) (.int .i64 u.state) (.int .u32 u.age) 46
      rw [hWa] at ba xa
      have HWA := Lib.hid hWa
      have BA := Lib.hid (below_next HB.out ba)
      have XA := Lib.hid xa
      clear hc hrow hb hWa ba xa
      go_wp2_with fail
      rw [HWA.out]
      refine (tget_yes (HT.out _ BA.out) k u HROW.out).mono ?_
      rintro e wg ⟨rfl, bg⟩
      have hu3 : (useV u).toArray = #[.int .i64 u.live, .int .i64 u.state, .int .u32 u.age] := rfl
      rw [hu3]
      clear hu3
      obtain ⟨W3, hW3⟩ : ∃ W3, wg.alloc (.cells #[.int .i64 u.live, .int .i64 u.state, .int .u32 u.age] 47) = W3 := ⟨_, rfl⟩
      have b3 := below_box wg (.cells #[.int .i64 u.live, .int .i64 u.state, .int .u32 u.age] 47)
      have x3 := box3_new wg (.int .i64 u.live) (.int .i64 u.state) (.int .u32 u.age) 47
      rw [hW3] at b3 x3
      have y3 := (XA.out.below bg).below b3
      have B3 := Lib.hid (below_next (below_next BA.out bg) b3)
      have HW3 := Lib.hid hW3
      obtain ⟨p0, p1, p2, p3⟩ := x3
      obtain ⟨q0, q1, q2, q3⟩ := y3
      have H6 := Lib.hid (fun W (hW : Below W3.heap.size W3 W) => (⟨(hW.cell (p := ⟨wr.heap.size, 0, none⟩) q0).trans q1, (hW.cell (p := ⟨wr.heap.size, 1, none⟩) q0).trans q2, (hW.cell (p := ⟨wr.heap.size, 2, none⟩) q0).trans q3, (hW.cell (p := ⟨wg.heap.size, 0, none⟩) p0).trans p1, (hW.cell (p := ⟨wg.heap.size, 1, none⟩) p0).trans p2, (hW.cell (p := ⟨wg.heap.size, 2, none⟩) p0).trans p3, hW⟩ :
        W.cell? ⟨wr.heap.size, 0, none⟩ = some (.int .i64 u.live) ∧ W.cell? ⟨wr.heap.size, 1, none⟩ = some (.int .i64 u.state) ∧ W.cell? ⟨wr.heap.size, 2, none⟩ = some (.int .u32 u.age) ∧ W.cell? ⟨wg.heap.size, 0, none⟩ = some (.int .i64 u.live) ∧ W.cell? ⟨wg.heap.size, 1, none⟩ = some (.int .i64 u.state) ∧ W.cell? ⟨wg.heap.size, 2, none⟩ = some (.int .u32 u.age) ∧ Below W3.heap.size W3 W))
      have c6a := H6.out W3 (Below.refl _ _)
      have c6b := H6.out W3.drew (below_drew _)
      obtain ⟨f0, f1, f2, f3, f4, f5, fB⟩ := c6a
      have eB := c6b.2.2.2.2.2.2
      clear b3 hW3 bg p0 p1 p2 p3 q0 q1 q2 q3 c6b d0 d1 d2 c2
      go_upto_region 8 with (fail)
      have hw3 := HW3.out
      rw [hw3]
      clear hw3
      go_cut [60] (fun v60 wc => v60 = .bool false ∧ Hid (Below W3.heap.size W3 wc))
      case first =>
        have hnq := run_neq_use u
        go_region_with (first
          | (go_at_call 81; (with_reducible refine (told_is u _).mono ?_); rintro e wt ⟨rfl, bT⟩; obtain ⟨f0, f1, f2, f3, f4, f5, eB⟩ := H6.out wt (below_next eB bT))
          | (go_at_call 34; (with_reducible refine (tuses_is (HT.out _ (below_next B3.out eB))).mono ?_); rintro e wi ⟨v, rfl, ho, bU⟩; obtain ⟨aU, cU, rfl, hrU, _, _⟩ := ho.reads; obtain ⟨gU, oU, rfl, _, hcU⟩ := hrU.row (usesV_get HROW.out); have z0 : wi.cell? ⟨gU, oU + k * 3, none⟩ = some (.int .i64 u.live) := hcU 0 _ rfl; have z1 : wi.cell? ⟨gU, oU + k * 3 + 1, none⟩ = some (.int .i64 u.state) := hcU 1 _ rfl; have z2 : wi.cell? ⟨gU, oU + k * 3 + 2, none⟩ = some (.int .u32 u.age) := hcU 2 _ rfl; obtain ⟨f0, f1, f2, f3, f4, f5, eB⟩ := H6.out wi (below_next eB bU); rw [usesV_length, HN.out]))
        all_goals
          go_wp2_with fail
          go_meet
          exact ⟨rfl, eB⟩
      case rest =>
        obtain ⟨rfl, HCW⟩ := hcut
        clear f0 f1 f2 f3 f4 f5 fB eB
        obtain ⟨f0, f1, f2, f3, f4, f5, fB⟩ := H6.out _ HCW.out
        have BW := Lib.hid (below_next B3.out HCW.out)
        have hb1 := HBD.out k (by rw [HN.out]; omega)
        have hb2 := HBD.out (k + 1) (by rw [HN.out]; omega)
        have HL : Hid (liveTo us (k + 1) = liveTo us k + u.live) := liveTo_succ HROW.out
        rw [HL.out] at hb2
        have hcl := cleanTo_le us k
        have hfi := firstTo_ge us k
        have hy1 : 0 ≤ liveTo us k := hb1.1
        have hy2 : liveTo us k ≤ 1000000 := by omega
        have hy3 : 0 ≤ liveTo us k + u.live := hb2.1
        have hy4 : liveTo us k + u.live ≤ 1000000 := by omega
        have hy5 : cleanTo us k ≤ 200 := by omega
        clear hb1 hb2 hcl fB
        cases hst : u.state == 0 with
        | true =>
          have HC1 : Hid (cleanTo us (k + 1) = cleanTo us k + 1) := cleanTo_yes HROW.out hst
          by_cases hf0 : firstTo us k < 0
          · have HF1 : Hid (firstTo us (k + 1) = (k : Int)) := firstTo_first HROW.out hst hf0
            generalize liveTo us k = z at *
            generalize cleanTo us k = y at *
            generalize firstTo us k = x at *
            go_wp2
            go_roundw
            case rel => exact ⟨k + 1, by omega, by go_num, by rw [HC1.out]; go_num, by rw [HF1.out], by rw [HL.out], BW.out⟩
            case measure => simp [intOf]; omega
          · have HF1 : Hid (firstTo us (k + 1) = firstTo us k) := firstTo_later HROW.out hst hf0
            generalize liveTo us k = z at *
            generalize cleanTo us k = y at *
            generalize firstTo us k = x at *
            go_wp2
            go_roundw
            case rel => exact ⟨k + 1, by omega, by go_num, by rw [HC1.out]; go_num, by rw [HF1.out], by rw [HL.out], BW.out⟩
            case measure => simp [intOf]; omega
        | false =>
          have HC1 : Hid (cleanTo us (k + 1) = cleanTo us k) := cleanTo_no HROW.out hst
          have HF1 : Hid (firstTo us (k + 1) = firstTo us k) := firstTo_no HROW.out hst
          generalize liveTo us k = z at *
          generalize cleanTo us k = y at *
          generalize firstTo us k = x at *
          go_wp2
          go_roundw
          case rel => exact ⟨k + 1, by omega, by go_num, by rw [HC1.out], by rw [HF1.out], by rw [HL.out], BW.out⟩
          case measure => simp [intOf]; omega
    · have hkn : k = n := by omega
      subst hkn
      have h1 : ((inL 0 us).length : Int) = (cleanTo us k : Int) := by unfold inL cleanTo; rw [HN.out]
      have h2 : firstI (fun u : UseD => u.state == 0) us = firstTo us k := by unfold firstI firstTo; rw [HN.out]; rfl
      have h3 : liveTo us us.length = liveTo us k := by rw [HN.out]
      have H1 := Lib.hid h1
      have H2 := Lib.hid h2
      have H3 := Lib.hid h3
      have c3 := HC.out _ HB.out
      clear h1 h2 h3 c2
      generalize cleanTo us k = y at *
      generalize firstTo us k = x at *
      generalize liveTo us k = z at *
      go_wp2_with fail
      refine (tget_no (HT.out _ HB.out) (k : Int) (.inr (by rw [HN.out]; exact Int.le_refl _))).mono ?_
      rintro e wg ⟨rfl, bg⟩
      have hz3 : (useV zeroU).toArray = #[.int .i64 0, .int .i64 0, .int .u32 0] := rfl
      rw [hz3]
      clear hz3
      obtain ⟨W3, hW3⟩ : ∃ W3, wg.alloc (.cells #[.int .i64 0, .int .i64 0, .int .u32 0] 47) = W3 := ⟨_, rfl⟩
      have b3 := below_box wg (.cells #[.int .i64 0, .int .i64 0, .int .u32 0] 47)
      rw [hW3] at b3
      have B3 := Lib.hid (below_next (below_next HB.out bg) b3)
      have HW3 := Lib.hid hW3
      clear b3 bg hW3 c3
      go_wp2_with fail
      rw [HW3.out]
      refine (tclean_is (HT.out _ B3.out)).mono ?_
      rintro e w4 ⟨rfl, b4⟩
      rw [H1.out]
      have B4 := Lib.hid (below_next B3.out b4)
      clear b4
      have hyy : ((y : Int) == (y : Int)) = true := by simp
      go_wp2_with fail
      refine (tfirst_is (HT.out _ B4.out)).mono ?_
      rintro e w5 ⟨rfl, b5⟩
      rw [H2.out]
      have B5 := Lib.hid (below_next B4.out b5)
      clear b5
      go_wp2_with fail
      refine (tlive_is (HT.out _ B5.out)).mono ?_
      rintro e w6 ⟨rfl, b6⟩
      rw [H3.out]
      go_wp2
      go_ret
      exact ⟨rfl, HB1.out.trans ((below_next B5.out b6).mono HB1.out.size)⟩
end Go.Proofs.Ytnlbjpnhepdicaa
