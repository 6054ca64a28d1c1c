/- The law's Is on a map of just these slots. -/
import Derived.Test.YtgakidimipipeaaGlagogpja
import Derived.Deep.DeepCutAuto
import Derived.Deep.RegionWith
namespace Go.Proofs.Ytgakidimipipeaa
open Go.RowKit Go.Sort
set_option linter.unusedVariables false
set_option linter.unusedSimpArgs false
set_option maxRecDepth 100000

theorem mget_no {B : Nat} {w : World} {g gs : Nat} {sl : List SlotD} (h : IsMap B w g gs sl) (n : Int) (hn : n < 1 ∨ (sl.length : Int) < n) :
    Calls Try.prog 20 #[.pointer (some ⟨g, 0, none⟩), .int .i64 n] w fun e w' => e = .returned (.tuple #[.agg #[.int .i64 0, .int .u32 0, .int .i64 0, .int .i64 0], .int .i64 1]) ∧ Below w.heap.size w w' := by
  have HH := Lib.hid (mhas_no (h.below (below_box w (.cells #[.int .i64 0, .int .u32 0, .int .i64 0, .int .i64 0] 28))) n hn)
  clear h hn
  go_enter Try.func20, Try.ntmps20
  go_wp2_with fail
  refine HH.out.mono ?_
  rintro e w' ⟨rfl, rfl⟩
  go_wp2
  refine bodyPost_ret (v := .tuple #[.agg #[.int .i64 0, .int .u32 0, .int .i64 0, .int .i64 0], .int .i64 1]) (by simp [results, Try.results20, go_sem]) rfl ⟨rfl, (Below.refl _ _).alloc (Nat.le_refl _) _⟩
theorem run_neq_slot10 (s : SlotD) (w : World) : (binOp .neq 27 (.agg #[.int .i64 s.place, .int .u32 s.version, .int .i64 s.links, .int .i64 s.kind]) (.agg #[.int .i64 s.place, .int .u32 s.version, .int .i64 s.links, .int .i64 s.kind])).run Try.prog w = .ok (.bool false) w := by
  go_simp
theorem usedTo_all (sl : List SlotD) : (usedI sl).map (· + 1) = usedTo sl sl.length := rfl
theorem usedI_len (sl : List SlotD) : (usedI sl).length = (usedTo sl sl.length).length := by rw [← usedTo_all, List.length_map]
set_option maxHeartbeats 4000000 in
theorem is10_true {B : Nat} {w : World} {g gs : Nat} {sl : List SlotD} (h : IsMap B w g gs sl) (a : Option Addr) (cap : Nat) (hr : ReadsR w a 4 (slotsV sl)) :
    Calls Try.prog 12 #[.pointer (some ⟨g, 0, none⟩), .slice a sl.length cap] w fun e w' => e = .returned (.bool true) ∧ Below w.heap.size w w' := by
  have hlen := h.2.2.2.2.1
  have HM := Lib.hid (fun (W : World) (hW : Below w.heap.size w W) => h.below hW)
  have HR := Lib.hid (fun (W : World) (hW : Below w.heap.size w W) => hr.below hW)
  have HSZ := Lib.hid (msize_is h)
  have HRU := Lib.hid (fun (W : World) (hW : Below w.heap.size w W) => rused_is sl a cap W (hr.below hW) (by omega))
  have HUS := Lib.hid (fun (W : World) (hW : Below w.heap.size w W) => mused_list (h.below hW))
  have HCO := Lib.hid (fun (W : World) (hW : Below w.heap.size w W) => mcount_is (h.below hW))
  have HNO := Lib.hid (fun (W : World) (hW : Below w.heap.size w W) (n : Int) hn => mget_no (h.below hW) n hn)
  have HSL := Lib.hid (slotsV_length sl)
  rw [usedTo_all] at HUS
  rw [usedI_len] at HCO
  obtain ⟨n, hn⟩ : ∃ n, sl.length = n := ⟨_, rfl⟩
  have HN := Lib.hid hn
  rw [hn] at hlen HSZ HRU HUS HCO HNO HSL ⊢
  clear h hr hn
  go_enter Try.func12, Try.ntmps12
  go_wp2_with fail
  refine HSZ.out.mono ?_
  rintro e w1 ⟨rfl, rfl⟩
  go_wp2_with fail
  refine (mslots_is (HM.out w (Below.refl _ _))).mono ?_
  rintro e w1 ⟨v, rfl, ho, b1⟩
  obtain ⟨a1, c1, rfl, _, _, _⟩ := ho.reads
  rw [HSL.out]
  have B1 := Lib.hid b1
  clear ho b1 HSZ
  go_wp2_with fail
  go_loopw [31] (fun i wr => ∃ k : Nat, k ≤ n ∧ i = .int .i64 k ∧ Hid (Below w.heap.size w wr)) (fun i _ => n - (intOf i).toNat)
  case atStart => exact ⟨0, Nat.zero_le _, rfl, B1.out⟩
  case round =>
    obtain ⟨k, hk, rfl, HB⟩ := hrel
    by_cases hlt : k < n
    · obtain ⟨s, hs⟩ : ∃ s, sl[k]? = some s := ⟨_, List.getElem?_eq_getElem (by rw [HN.out]; exact hlt)⟩
      have HS := Lib.hid hs
      obtain ⟨b, off, rfl, _, hc⟩ := (HR.out _ HB.out).row (slotsV_get hs)
      have d0 : wr.cell? ⟨b, off + k * 4, none⟩ = some (.int .i64 s.place) := hc 0 _ rfl
      have d1 : wr.cell? ⟨b, off + k * 4 + 1, none⟩ = some (.int .u32 s.version) := by have := hc 1 _ rfl; rwa [← Nat.add_assoc] at this
      have d2 : wr.cell? ⟨b, off + k * 4 + 2, none⟩ = some (.int .i64 s.links) := by have := hc 2 _ rfl; rwa [← Nat.add_assoc] at this
      have d3 : wr.cell? ⟨b, off + k * 4 + 3, none⟩ = some (.int .i64 s.kind) := by have := hc 3 _ rfl; rwa [← Nat.add_assoc] at this
      have hx1 : (0 : Int) ≤ (k : Int) := by omega
      have hx2 : (k : Int) < (n : Int) := by omega
      have hwk : IntKind.i64.wrap ((k : Int) + 1) = (k : Int) + 1 := IntWalk.i64_in _ (by omega)
      have ba := below_box wr (.cells #[.int .i64 s.place, .int .u32 s.version, .int .i64 s.links, .int .i64 s.kind] 27)
      obtain ⟨x0, x1, x2, x3⟩ := box4_cells wr s 27
      have xl : wr.heap.size < (wr.alloc (.cells #[.int .i64 s.place, .int .u32 s.version, .int .i64 s.links, .int .i64 s.kind] 27)).heap.size := by simp
      obtain ⟨Wa, hWa⟩ : ∃ Wa, wr.alloc (.cells #[.int .i64 s.place, .int .u32 s.version, .int .i64 s.links, .int .i64 s.kind] 27) = Wa := ⟨_, rfl⟩
      rw [hWa] at ba x0 x1 x2 x3 xl
      have HWA := Lib.hid hWa
      have BA := Lib.hid (below_next HB.out ba)
      have XA := Lib.hid (fun W (hW : Below Wa.heap.size Wa W) => (⟨(hW.cell (p := ⟨wr.heap.size, 0, none⟩) xl).trans x0, (hW.cell (p := ⟨wr.heap.size, 1, none⟩) xl).trans x1, (hW.cell (p := ⟨wr.heap.size, 2, none⟩) xl).trans x2, (hW.cell (p := ⟨wr.heap.size, 3, none⟩) xl).trans x3⟩ :
        W.cell? ⟨wr.heap.size, 0, none⟩ = some (.int .i64 s.place) ∧ W.cell? ⟨wr.heap.size, 1, none⟩ = some (.int .u32 s.version) ∧ W.cell? ⟨wr.heap.size, 2, none⟩ = some (.int .i64 s.links) ∧ W.cell? ⟨wr.heap.size, 3, none⟩ = some (.int .i64 s.kind)))
      clear hc hs hWa ba x0 x1 x2 x3 xl
      go_wp2_with fail
      rw [HWA.out]
      refine (mget_yes (HM.out _ BA.out) k s HS.out).mono ?_
      rintro e wg ⟨rfl, bg⟩
      have b3 := below_box wg (.cells #[.int .i64 s.place, .int .u32 s.version, .int .i64 s.links, .int .i64 s.kind] 28)
      obtain ⟨y0, y1, y2, y3⟩ := box4_cells wg s 28
      have yl : wg.heap.size < (wg.alloc (.cells #[.int .i64 s.place, .int .u32 s.version, .int .i64 s.links, .int .i64 s.kind] 28)).heap.size := by simp
      obtain ⟨W3, hW3⟩ : ∃ W3, wg.alloc (.cells #[.int .i64 s.place, .int .u32 s.version, .int .i64 s.links, .int .i64 s.kind] 28) = W3 := ⟨_, rfl⟩
      rw [hW3] at b3 y0 y1 y2 y3 yl
      have B3 := Lib.hid (below_next (below_next BA.out bg) b3)
      have BA3 := Lib.hid (below_next bg b3)
      have HW3 := Lib.hid hW3
      have H8 := Lib.hid (fun W (hW : Below W3.heap.size W3 W) => (And.intro (XA.out W (below_next BA3.out hW)) ⟨(hW.cell (p := ⟨wg.heap.size, 0, none⟩) yl).trans y0, (hW.cell (p := ⟨wg.heap.size, 1, none⟩) yl).trans y1, (hW.cell (p := ⟨wg.heap.size, 2, none⟩) yl).trans y2, (hW.cell (p := ⟨wg.heap.size, 3, none⟩) yl).trans y3, hW⟩ :
        (W.cell? ⟨wr.heap.size, 0, none⟩ = some (.int .i64 s.place) ∧ W.cell? ⟨wr.heap.size, 1, none⟩ = some (.int .u32 s.version) ∧ W.cell? ⟨wr.heap.size, 2, none⟩ = some (.int .i64 s.links) ∧ W.cell? ⟨wr.heap.size, 3, none⟩ = some (.int .i64 s.kind)) ∧ W.cell? ⟨wg.heap.size, 0, none⟩ = some (.int .i64 s.place) ∧ W.cell? ⟨wg.heap.size, 1, none⟩ = some (.int .u32 s.version) ∧ W.cell? ⟨wg.heap.size, 2, none⟩ = some (.int .i64 s.links) ∧ W.cell? ⟨wg.heap.size, 3, none⟩ = some (.int .i64 s.kind) ∧ Below W3.heap.size W3 W))
      obtain ⟨⟨f0, f1, f2, f3⟩, f4, f5, f6, f7, fB⟩ := H8.out W3 (Below.refl _ _)
      obtain ⟨_, _, _, _, _, eB⟩ := H8.out W3.drew (below_drew _)
      clear b3 hW3 bg y0 y1 y2 y3 yl d0 d1 d2 d3
      go_upto_region 7 with (fail)
      have hw3 := HW3.out
      rw [hw3]
      clear hw3
      go_cut [60] (fun v60 wc => v60 = .bool false ∧ Hid (Below W3.heap.size W3 wc))
      case first =>
        have hnq := run_neq_slot10 s
        go_region_with (first
          | (go_at_call 49; (with_reducible refine (slot_told s _).mono ?_); rintro e wt ⟨rfl, bT⟩; obtain ⟨⟨f0, f1, f2, f3⟩, f4, f5, f6, f7, eB⟩ := H8.out wt (below_next eB bT))
          | (go_at_call 48; (with_reducible refine (mslots_is (HM.out _ (below_next B3.out eB))).mono ?_); rintro e wi ⟨v, rfl, ho, bU⟩; obtain ⟨aU, cU, rfl, hrU, _, _⟩ := ho.reads; obtain ⟨gU, oU, rfl, _, hcU⟩ := hrU.row (slotsV_get HS.out); rw [HSL.out]; have u0 := hcU 0 _ rfl; have u1 := hcU 1 _ rfl; have u2 := hcU 2 _ rfl; have u3 := hcU 3 _ rfl; rw [Nat.add_zero] at u0; rw [← Nat.add_assoc] at u1 u2 u3; obtain ⟨⟨f0, f1, f2, f3⟩, f4, f5, f6, f7, eB⟩ := H8.out wi (below_next eB bU); clear hcU hrU ho))
        all_goals
          go_wp2_with fail
          go_meet
          exact ⟨rfl, eB⟩
      case rest =>
        obtain ⟨rfl, HCW⟩ := hcut
        clear f0 f1 f2 f3 f4 f5 f6 f7 fB eB
        have BW := Lib.hid (below_next B3.out HCW.out)
        go_wp2_with fail
        go_roundw
        case rel => exact ⟨k + 1, by omega, by go_num, BW.out⟩
        case measure => simp [intOf]; omega
    · have hkn : k = n := by omega
      subst hkn
      go_wp2_with fail
      refine (HUS.out _ HB.out).mono ?_
      rintro e w4 ⟨a4, c4, rfl, ho4, b4⟩
      have B4 := Lib.hid (below_next HB.out b4)
      have R4 := Lib.hid ho4.reads
      clear ho4 b4
      go_wp2_with fail
      refine (HRU.out _ B4.out).mono ?_
      rintro e w5 ⟨v5, rfl, ho5, b5⟩
      obtain ⟨a5, c5, rfl, hr5, _, _⟩ := ho5.reads
      rw [natV_length] at hr5 ⊢
      have B5 := Lib.hid (below_next B4.out b5)
      obtain ⟨a4', c4', hv4, hr4, _, _⟩ := R4.out
      have e4 : a4 = a4' := by injection hv4
      subst e4
      rw [natV_length] at hr4
      have HR4 := Lib.hid (hr4.below b5)
      have HR5 := Lib.hid hr5
      have HCN := HCO.out w5 B5.out
      have hml := usedTo_len sl k
      rw [natV_length] at hml
      obtain ⟨U, hU⟩ : ∃ U, usedTo sl k = U := ⟨_, rfl⟩
      rw [hU] at HR4 HR5 HCN hml ⊢
      obtain ⟨m, hm⟩ : ∃ m, U.length = m := ⟨_, rfl⟩
      rw [hm] at HR4 HR5 HCN hml ⊢
      have HCN2 := Lib.hid HCN
      have HUM := Lib.hid hm
      clear R4 hv4 hr4 ho5 b5 hr5 HCN hU hm
      go_wp2_with fail
      refine HCN2.out.mono ?_
      rintro e w6 ⟨rfl, b6⟩
      have B6 := Lib.hid (below_next B5.out b6)
      have HR46 := Lib.hid (HR4.out.below b6)
      have HR56 := Lib.hid (HR5.out.below b6)
      clear b6 HCN2 HR4 HR5
      go_wp2_with fail
      generalize wr = wa at *
      go_loopw [80] (fun i wr => ∃ j : Nat, j ≤ m ∧ i = .int .i64 j ∧ Hid (Below w6.heap.size w6 wr)) (fun i _ => m - (intOf i).toNat)
      case atStart => exact ⟨0, Nat.zero_le _, rfl, Below.refl _ _⟩
      case round =>
        obtain ⟨j, hj, rfl, HBJ⟩ := hrel
        by_cases hjm : j < m
        · obtain ⟨x, hx⟩ : ∃ x, U[j]? = some x := ⟨_, List.getElem?_eq_getElem (by rw [HUM.out]; exact hjm)⟩
          obtain ⟨g1, o1, rfl, _, e1⟩ := (HR46.out.below HBJ.out).at (natV_get hx)
          obtain ⟨g2, o2, rfl, _, e2⟩ := (HR56.out.below HBJ.out).at (natV_get hx)
          have hj1 : (0 : Int) ≤ (j : Int) := by omega
          have hj2 : (j : Int) < (m : Int) := by omega
          clear hx
          go_wp2_with fail
          go_quiet (fail)
          go_wp2_with fail
          go_roundw
          case rel => exact ⟨j + 1, by omega, by go_num, below_next HBJ.out (below_drewN _ _)⟩
          case measure => simp [intOf]; omega
        · have hjm2 : j = m := by omega
          subst hjm2
          have BJ := Lib.hid (below_next B6.out HBJ.out)
          have hwl : IntKind.i64.wrap ((k : Int) + 1) = (k : Int) + 1 := IntWalk.i64_in _ (by omega)
          go_wp2_with fail
          refine (HNO.out _ BJ.out 0 (.inl (by decide))).mono ?_
          rintro e w7 ⟨rfl, b7⟩
          have B7 := Lib.hid (below_next BJ.out b7)
          have B8 := Lib.hid (below_next B7.out (below_box w7 (.cells #[.int .i64 0, .int .u32 0, .int .i64 0, .int .i64 0] 28)))
          clear b7
          go_wp2_with fail
          refine (HNO.out _ B8.out ((k : Int) + 1) (.inr (by omega))).mono ?_
          rintro e w9 ⟨rfl, b9⟩
          have B9 := Lib.hid (below_next B8.out b9)
          go_wp2
          go_ret
          exact ⟨rfl, B9.out.alloc B9.out.size _⟩
end Go.Proofs.Ytgakidimipipeaa
