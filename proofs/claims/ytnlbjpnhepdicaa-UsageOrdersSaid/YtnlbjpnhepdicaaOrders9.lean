/- The law UsageOrders is true for every input: the segments come in the order of what cleaning them gains against what it costs, without any rounding. No condition. -/
import Derived.Test.YtnlbjpnhepdicaaLoads9
import Derived.Test.YtnlbjpnhepdicaaROrder
import Derived.Test.YtnlbjpnhepdicaaInts
import Derived.Lib.QuietBelow
import Derived.BigQuiet
namespace Go.Proofs.Ytnlbjpnhepdicaa
open Go.ChangeShapes Go.WideShapes Go.ChangeAt Go.RowKit Go.Sort
set_option linter.unusedVariables false
set_option linter.unusedSimpArgs false
set_option maxRecDepth 100000

theorem and3_bound (s : Int) : 0 ≤ bits .and .i64 s 3 ∧ bits .and .i64 s 3 ≤ 3 := by
  unfold bits
  simp only [BitVec.toNat_and]
  have h : (BitVec.ofInt IntKind.i64.bits 3).toNat = 3 := rfl
  rw [h]
  have h2 : (BitVec.ofInt IntKind.i64.bits s).toNat &&& 3 ≤ 3 := Nat.and_le_right
  generalize (BitVec.ofInt IntKind.i64.bits s).toNat &&& 3 = q at *
  rw [IntWalk.i64_in _ (by omega)]
  omega
def stI (s : Int) : Int := bits .and .i64 s 3
def fixU (R : Int) (u : UseD) : UseD := ⟨max 0 (min u.live R), stI u.state, u.age⟩
theorem fixU_ok {R : Int} (hR : 1 ≤ R) {u : UseD} (h : UseFits u) : UseOk R (fixU R u) := by
  obtain ⟨_, _, h1, h2⟩ := h
  have h3 := and3_bound u.state
  refine ⟨?_, ?_, h3.1, h3.2, h1, h2⟩
  · show 0 ≤ max 0 (min u.live R); omega
  · show max 0 (min u.live R) ≤ R; omega
theorem OwnsR'.apart3 {B : Nat} {w : World} {e e' : TypeId} {k k' : Nat} {v v' : Value} {l l' : List (List Value)} (h : OwnsR' B w e k v l) (h' : OwnsR' B w e' k' v' l') (hne : e ≠ e') : v.ownBlock = none ∨ v.ownBlock ≠ v'.ownBlock := by
  rcases h.2.2 with ⟨rfl, _⟩ | ⟨g, cap, cur, rfl, _, hg, _⟩
  · left; rfl
  · right
    rcases h'.2.2 with ⟨rfl, _⟩ | ⟨g', cap', cur', rfl, _, hg', _⟩
    · intro h; cases h
    · intro h
      obtain rfl : g = g' := by simpa [Value.ownBlock] using h
      rw [hg] at hg'
      simp at hg'
      exact hne hg'.2
def BoxT (w : World) (p : Nat) (R : Int) (v : Value) : Prop := w.heap[p]? = some (.cells #[.int .i64 R, v] 59 (0, 0))
theorem BoxT.cells {w : World} {p : Nat} {R : Int} {v : Value} (h : BoxT w p R v) : w.cell? ⟨p, 0, none⟩ = some (.int .i64 R) ∧ w.cell? ⟨p, 1, none⟩ = some v ∧ w.frozen? ⟨p, 1, none⟩ = false ∧ p < w.heap.size := by
  unfold BoxT at h
  refine ⟨?_, ?_, frozen_of_row _ _ _ _ _ h, (Array.getElem?_eq_some_iff.1 h).1⟩ <;> (unfold World.cell?; rw [h]; rfl)
theorem BoxT.below {w w' : World} {p : Nat} {R : Int} {v : Value} (h : BoxT w p R v) (b : Below w.heap.size w w') : BoxT w' p R v := (b.block p h.cells.2.2.2).trans h
theorem BoxT.kept {w w' : World} {p : Nat} {R : Int} {v : Value} (h : BoxT w p R v) {row : Option Nat} (hg : w.grownBy w' row) (hne : some p ≠ row) : BoxT w' p R v := (hg.block p h.cells.2.2.2 hne).trans h
theorem BoxT.set {w : World} {p : Nat} {R : Int} {v : Value} (h : BoxT w p R v) (v' : Value) : BoxT (w.setCell ⟨p, 1, none⟩ v') p R v' := by
  have := heap_setCell_same w p 1 _ _ v' h
  unfold BoxT
  rw [this]
  rfl
set_option maxHeartbeats 4000000 in
theorem usageOrders_walk (room now : Int) (a : Option Addr) (cap : Nat) (us : List UseD) (w : World) (hroom : I64 room) (hnow0 : 0 ≤ now) (hnow1 : now < 4294967296) (hr : ReadsR w a 3 (usesV us)) (hcap : us.length ≤ cap) (hfit : ∀ u ∈ us, UseFits u) :
    Calls Try.prog 6 #[.int .i64 room, .slice a us.length cap, .int .u32 now] w fun e w' => e = .returned (.bool true) ∧ Below w.heap.size w w' := by
  have HRM := Lib.hid hroom
  have HR := Lib.hid hr
  have HFIT := Lib.hid hfit
  clear hroom hr hfit
  obtain ⟨L, hL⟩ : ∃ L, us.length = L := ⟨_, rfl⟩
  have HL := Lib.hid hL
  rw [hL] at hcap ⊢
  clear hL
  go_enter Try.func6, Try.ntmps6
  go_wp2_with fail
  refine (awake9_true w).mono ?_
  rintro e w1 ⟨rfl, b1⟩
  have B1 := Lib.hid b1
  clear b1
  go_upto_if 19 with (fail)
  go_cut [1] (fun s wx => w1 = wx ∧ ∃ n, s = .slice a n cap ∧ Hid ((us.take 40).length = n))
  case first =>
    by_cases h210 : 40 < L
    · have hx : (40 : Int) < (L : Int) := by omega
      have hy : (40 : Int) ≤ (cap : Int) := by omega
      go_wp2
      go_meet
      exact ⟨rfl, 40, rfl, by show _ = _; rw [List.length_take, HL.out]; omega⟩
    · have hx : ¬ (40 : Int) < (L : Int) := by omega
      go_wp2
      go_meet
      exact ⟨rfl, L, rfl, by show _ = _; rw [List.length_take, HL.out]; omega⟩
  case rest =>
    obtain ⟨rfl, n, rfl, HN⟩ := hcut
    have HR0 := Lib.hid (HR.out.take 40)
    have HF2 := Lib.hid (fun u (hu : u ∈ us.take 40) => HFIT.out u (List.mem_of_mem_take hu))
    have hn40 : n ≤ 40 := by rw [← HN.out]; exact List.length_take_le _ _
    generalize us.take 40 = us at *
    clear HR HL HFIT hcap
    go_wp2_with fail
    refine (rnew_is 1 room w1 1 rfl).mono ?_
    rintro e w2 ⟨gr, rfl, hor, b2⟩
    have hcl := clampI_of (most := 4096) (n := room) (by decide)
    obtain ⟨R, hR⟩ : ∃ R, clampI 4096 room = R := ⟨_, rfl⟩
    have HRR := Lib.hid hR
    rw [hR] at hcl ⊢
    obtain ⟨hR1, hR2⟩ := hcl
    have B2 := Lib.hid (B1.out.trans (b2.mono B1.out.size))
    clear hR hor b2
    rw [show (List.replicate 1 zeroU).length = 1 from rfl]
    obtain ⟨p7, hp7⟩ : ∃ p, w2.heap.size = p := ⟨_, rfl⟩
    have hbx : BoxT (w2.alloc (.cells #[.int .i64 R, .slice none 0 0] 59)) p7 R (.slice none 0 0) := by rw [← hp7]; exact heap_alloc_new w2 _
    have HBX := Lib.hid hbx
    have HP7 := Lib.hid hp7
    clear hbx
    go_wp2_with fail
    clear hp7
    obtain ⟨fx, hfx⟩ : ∃ fx, us.map (fixU R) = fx := ⟨_, rfl⟩
    have HFX := Lib.hid hfx
    have HFL : Hid (fx.length = n) := by show _ = _; rw [← hfx, List.length_map, HN.out]
    clear hfx
    go_loopw [8, 27] (fun v8 i wr => ∃ (k : Nat) (vW : Value), k ≤ n ∧ i = .int .i64 k ∧ Hid (BoxT wr p7 R vW) ∧ Hid (OwnsR' p7 wr 46 3 vW (usesV (fx.take k))) ∧ Hid (OwnsR' p7 wr 47 3 v8 (usesV (fx.take k))) ∧ Hid (Below w.heap.size w wr)) (fun _ i _ => n - (intOf i).toNat)
    case atStart => exact ⟨0, _, Nat.zero_le _, rfl, HBX.out, OwnsR'.nil _ _ _ _, OwnsR'.nil _ _ _ _, B2.out.alloc B2.out.size _⟩
    case round =>
      obtain ⟨k, vW, hk, rfl, HBT, HOW, HO, HB⟩ := hrel
      by_cases hlt : k < n
      · obtain ⟨u, hrow⟩ : ∃ r, us[k]? = some r := ⟨_, List.getElem?_eq_getElem (by rw [HN.out]; exact hlt)⟩
        obtain ⟨b, off, rfl, hb, hc⟩ := (HR0.out.below HB.out).row (usesV_get hrow)
        have d0 : wr.cell? ⟨b, off + k * 3, none⟩ = some (.int .i64 u.live) := hc 0 _ rfl
        have d1 : wr.cell? ⟨b, off + k * 3 + 1, none⟩ = some (.int .i64 u.state) := by have := hc 1 _ rfl; rwa [← Nat.add_assoc] at this
        have d2 : wr.cell? ⟨b, off + k * 3 + 2, none⟩ = some (.int .u32 u.age) := by have := hc 2 _ rfl; rwa [← Nat.add_assoc] at this
        have hx1 : (0 : Int) ≤ (k : Int) := by omega
        have hx2 : (k : Int) < (n : Int) := by omega
        obtain ⟨k0, k1, kf, kl⟩ := HBT.out.cells
        clear hc hb
        obtain ⟨fl, hfl⟩ : ∃ x, max 0 (min u.live R) = x := ⟨_, rfl⟩
        obtain ⟨fs, hfs⟩ : ∃ x, bits BinOp.and IntKind.i64 u.state 3 = x := ⟨_, rfl⟩
        have hfu : fixU R u = ⟨fl, fs, u.age⟩ := by unfold fixU stI; rw [hfl, hfs]
        have hfk : fx[k]? = some ⟨fl, fs, u.age⟩ := by rw [← HFX.out, List.getElem?_map, hrow, ← hfu]; rfl
        have HNext : Hid (usesV (fx.take (k + 1)) = usesV (fx.take k) ++ [useV ⟨fl, fs, u.age⟩]) := by
          show _ = _
          rw [List.take_add_one, hfk]
          unfold usesV
          rw [List.map_append]
          rfl
        have HK1 : Hid ((usesV (fx.take (k + 1))).length = k + 1) := by show _ = _; rw [usesV_length, List.length_take, HFL.out]; omega
        have HKL : Hid ((usesV (fx.take k)).length ≤ 40) := by show _ ≤ _; rw [usesV_length, List.length_take]; omega
        have hb10 := below_box wr (.cells #[.int .i64 fl, .int .i64 fs, .int .u32 u.age] 46)
        have HB10 := Lib.hid (HB.out.trans (hb10.mono HB.out.size))
        obtain ⟨m0, m1, mf, ml⟩ := (HBT.out.below hb10).cells
        have hp7r : wr.heap.size ≠ p7 := by omega
        have HNE : Hid (some p7 ≠ vW.ownBlock) := fun e => (HOW.out.apart (g := p7) HBT.out (by decide)) e.symm
        have HONE : Hid (OneRows [useV ⟨fl, fs, u.age⟩]) := by
          intro p hp y hy
          simp at hp
          subst hp
          simp [useV] at hy
          rcases hy with rfl | rfl | rfl <;> rfl
        have HL1 : Hid (((usesV (fx.take k)).length + [useV ⟨fl, fs, u.age⟩].length) * 24 ≤ 140737488355328) := by have := HKL.out; show _ ≤ _; simp only [List.length_cons, List.length_nil]; omega
        have HL2 : Hid ((usesV (fx.take k)).length + [useV ⟨fl, fs, u.age⟩].length ≤ maxLen) := by have := HKL.out; show _ ≤ _; unfold maxLen; simp only [List.length_cons, List.length_nil]; omega
        have HA1 : Hid (OwnsR' p7 ((wr.alloc (.cells #[.int .i64 fl, .int .i64 fs, .int .u32 u.age] 46)).alloc (.cells #[.int .i64 fl, .int .i64 fs, .int .u32 u.age] 46)) 46 3 vW (usesV (fx.take k))) := (HOW.out.alloc _).alloc _
        have HA2 : Hid (OwnsR' p7 ((wr.alloc (.cells #[.int .i64 fl, .int .i64 fs, .int .u32 u.age] 46)).alloc (.cells #[.int .i64 fl, .int .i64 fs, .int .u32 u.age] 46)) 47 3 u8 (usesV (fx.take k))) := (HO.out.alloc _).alloc _
        have HA3 : Hid (BoxT ((wr.alloc (.cells #[.int .i64 fl, .int .i64 fs, .int .u32 u.age] 46)).alloc (.cells #[.int .i64 fl, .int .i64 fs, .int .u32 u.age] 46)) p7 R vW) := (HBT.out.below (below_box _ _)).below (below_box _ _)
        have HA4 : Hid (Below w.heap.size w ((wr.alloc (.cells #[.int .i64 fl, .int .i64 fs, .int .u32 u.age] 46)).alloc (.cells #[.int .i64 fl, .int .i64 fs, .int .u32 u.age] 46))) := (HB.out.alloc HB.out.size _).alloc (HB.out.alloc HB.out.size _).size _
        have HRL : Hid (ReadsR ((wr.alloc (.cells #[.int .i64 fl, .int .i64 fs, .int .u32 u.age] 46)).alloc (.cells #[.int .i64 fl, .int .i64 fs, .int .u32 u.age] 46)) (some ⟨wr.heap.size + 1, 0, none⟩) 3 [useV ⟨fl, fs, u.age⟩]) := ReadsR.litU ⟨fl, fs, u.age⟩ _ (by simp)
        have HPS : Hid (p7 ≤ ((wr.alloc (.cells #[.int .i64 fl, .int .i64 fs, .int .u32 u.age] 46)).alloc (.cells #[.int .i64 fl, .int .i64 fs, .int .u32 u.age] 46)).heap.size) := by show _ ≤ _; simp; omega
        have HPR := Lib.hid hp7r
        have HWP : Hid (w.heap.size ≤ p7) := by have h1 := HP7.out; have h2 := B2.out.size; show _ ≤ _; omega
        clear hfu hfk hb10 hrow
        go_upto_region 14 with (at_builtin; refine wpList_append_rows' rfl (.tmp 43) (.tmp 45) 43 rfl p7 46 (.agg #[.int .i64 0, .int .i64 0, .int .u32 0]) 3 24 Try.underlying43 info_ruse rfl (by decide) vW (usesV (fx.take k)) rfl HA1.out (some ⟨wr.heap.size + 1, 0, none⟩) 1 [useV ⟨fl, fs, u.age⟩] rfl HRL.out HONE.out HL1.out HL2.out HPS.out ?_; intro v9 w9 ho9 hg9; obtain ⟨x0, x1, x2⟩ := box_kept HOW.out hg9; have hbt9 := HA3.out.kept hg9 HNE.out; obtain ⟨j0, j1, jf, jl⟩ := hbt9.cells; have ho47 := HA2.out.kept hg9 (HA2.out.apart3 HA1.out (by decide)); have hb9 := HA4.out.grown hg9 HA4.out.size (fun j hj => Nat.le_trans HWP.out (HA1.out.lt j hj).1); rw [← HNext.out] at ho9; obtain ⟨a9, c9, rfl, _, _, _⟩ := ho9.reads; rw [HK1.out] at ho9 ⊢)
        have HBT9 := Lib.hid hbt9
        have HNE9 : Hid ((Value.slice a9 (k + 1) c9).ownBlock = none ∨ (Value.slice a9 (k + 1) c9).ownBlock ≠ some p7) := .inr (ho9.apart (g := p7) hbt9 (by decide))
        have HNE47 : Hid (u8.ownBlock = none ∨ u8.ownBlock ≠ some p7) := .inr (ho47.apart (g := p7) hbt9 (by decide))
        have y0 := (World.cell?_setCell_other w9 (a := ⟨p7, 1, none⟩) (b := ⟨wr.heap.size, 0, none⟩) (v := .slice a9 (k + 1) c9) (by intro e; cases e)).trans x0
        have y1 := (World.cell?_setCell_other w9 (a := ⟨p7, 1, none⟩) (b := ⟨wr.heap.size, 1, none⟩) (v := .slice a9 (k + 1) c9) (by intro e; cases e; exact hp7r rfl)).trans x1
        have y2 := (World.cell?_setCell_other w9 (a := ⟨p7, 1, none⟩) (b := ⟨wr.heap.size, 2, none⟩) (v := .slice a9 (k + 1) c9) (by intro e; cases e)).trans x2
        have hbt10 := hbt9.set (.slice a9 (k + 1) c9)
        have ho46 := ho9.kept (grown_setCell w9 ⟨p7, 1, none⟩ (.slice a9 (k + 1) c9)) HNE9.out
        have ho48 := ho47.kept (grown_setCell w9 ⟨p7, 1, none⟩ (.slice a9 (k + 1) c9)) HNE47.out
        have hb10' := hb9.setCell (p := ⟨p7, 1, none⟩) HWP.out (.slice a9 (k + 1) c9)
        obtain ⟨w10, hw10⟩ : ∃ w10, w9.setCell ⟨p7, 1, none⟩ (.slice a9 (k + 1) c9) = w10 := ⟨_, rfl⟩
        rw [hw10] at y0 y1 y2 hbt10 ho46 ho48 hb10' ⊢
        have HBT10 := Lib.hid hbt10
        have HO46 := Lib.hid ho46
        have HO48 := Lib.hid ho48
        have HBB := Lib.hid hb10'
        clear hw10 hbt10 ho46 ho48 hb10' hb9 x0 x1 x2 j0 j1 jf jl hbt9 ho9 ho47 hg9 k0 k1 kf m0 m1 mf d0 d1 d2
        have hps : p7 ≤ w10.heap.size + 1 := by have := HBT10.out.cells.2.2.2; omega
        have HRL2 : Hid (ReadsR (w10.alloc (.cells #[.int .i64 fl, .int .i64 fs, .int .u32 u.age] 47)) (some ⟨w10.heap.size, 0, none⟩) 3 [useV ⟨fl, fs, u.age⟩]) := ReadsR.litU ⟨fl, fs, u.age⟩ _ rfl
        have HA5 : Hid (OwnsR' p7 (w10.alloc (.cells #[.int .i64 fl, .int .i64 fs, .int .u32 u.age] 47)) 47 3 u8 (usesV (fx.take k))) := HO48.out.alloc _
        have HA6 : Hid (OwnsR' p7 (w10.alloc (.cells #[.int .i64 fl, .int .i64 fs, .int .u32 u.age] 47)) 46 3 (.slice a9 (k + 1) c9) (usesV (fx.take (k + 1)))) := HO46.out.alloc _
        have HA7 : Hid (BoxT (w10.alloc (.cells #[.int .i64 fl, .int .i64 fs, .int .u32 u.age] 47)) p7 R (.slice a9 (k + 1) c9)) := HBT10.out.below (below_box _ _)
        have HA8 : Hid (Below w.heap.size w (w10.alloc (.cells #[.int .i64 fl, .int .i64 fs, .int .u32 u.age] 47))) := HBB.out.alloc HBB.out.size _
        have HPS2 : Hid (p7 ≤ (w10.alloc (.cells #[.int .i64 fl, .int .i64 fs, .int .u32 u.age] 47)).heap.size) := by show _ ≤ _; simp; omega
        go_wp2_with (at_builtin; refine wpList_append_rows' rfl (.tmp 48) (.tmp 56) 44 rfl p7 47 (.agg #[.int .i64 0, .int .i64 0, .int .u32 0]) 3 24 Try.underlying44 info_use rfl (by decide) u8 (usesV (fx.take k)) rfl HA5.out (some ⟨w10.heap.size, 0, none⟩) 1 [useV ⟨fl, fs, u.age⟩] rfl HRL2.out HONE.out HL1.out HL2.out HPS2.out ?_; intro v11 w11 ho11 hg11)
        go_roundw
        case rel =>
          refine ⟨k + 1, .slice a9 (k + 1) c9, by omega, by go_num, ?_, ?_, ?_, ?_⟩
          · exact HA7.out.kept hg11 (fun e => (HA5.out.apart (g := p7) HA7.out (by decide)) e.symm)
          · exact HA6.out.kept hg11 (HA6.out.apart3 HA5.out (by decide))
          · show OwnsR' _ _ _ _ _ _
            rw [HNext.out]
            exact ho11
          · exact HA8.out.grown hg11 HA8.out.size (fun j hj => Nat.le_trans HWP.out (HA5.out.lt j hj).1)
        case measure => simp [intOf]; omega
      · have hkn : k = n := by omega
        subst hkn
        have hfull : fx.take k = fx := List.take_of_length_le (by rw [HFL.out]; exact Nat.le_refl _)
        have ho := HO.out
        have hw := HOW.out
        rw [hfull] at ho hw
        obtain ⟨ao, co, hvo, hro, _, _⟩ := ho.reads
        obtain ⟨aw, cw, hvw, hrw, _, _⟩ := hw.reads
        rw [usesV_length, HFL.out] at hvo hvw
        subst hvo
        subst hvw
        have HRO := Lib.hid hro
        have HRW := Lib.hid hrw
        have hokall : ∀ u ∈ fx, UseOk R u := by
          intro u hu
          rw [← HFX.out] at hu
          obtain ⟨x, hx, rfl⟩ := List.mem_map.1 hu
          exact fixU_ok hR1 (HF2.out x hx)
        have HALL := Lib.hid hokall
        clear hfull ho hw hro hrw hokall
        by_cases hk0 : k = 0
        · have HLD := Lib.hid (tload_len room ao co k wr HRM.out (.inl hk0) (by omega))
          have t0 : ((k : Int) == 0) = true := by simp [hk0]
          clear hk0
          go_wp2_with fail
          refine HLD.out.mono ?_
          rintro e w4 ⟨rfl, b4⟩
          go_wp2
          go_ret
          exact ⟨rfl, HB.out.trans (b4.mono HB.out.size)⟩
        · have HLD := Lib.hid (tload_yes room ao co fx wr HRO.out HRM.out (by rw [HFL.out]; omega) (by rw [HFL.out]; omega) (by rw [HRR.out]; exact HALL.out))
          rw [HRR.out, HFL.out] at HLD
          have t0 : ((k : Int) == 0) = false := by simp; omega
          have hk1 : 1 ≤ k := by omega
          clear hk0
          go_wp2_with fail
          refine HLD.out.mono ?_
          rintro e w4 ⟨g, gs, rfl, t4, b4⟩
          have T4 := Lib.hid t4
          have BT4 := Lib.hid (HBT.out.below b4)
          have RW4 := Lib.hid (HRW.out.below b4)
          have B4 := Lib.hid (HB.out.trans (b4.mono HB.out.size))
          obtain ⟨j0, j1, jf, jl⟩ := BT4.out.cells
          clear t4 b4
          have HIS := Lib.hid (is_true T4.out R aw cw RW4.out)
          rw [HFL.out] at HIS
          go_wp2_with fail
          refine HIS.out.mono ?_
          rintro e w5 ⟨rfl, b5⟩
          have T5 := Lib.hid (T4.out.below b5)
          have BT5 := Lib.hid (BT4.out.below b5)
          have RW5 := Lib.hid (RW4.out.below b5)
          have B5 := Lib.hid (B4.out.trans (b5.mono B4.out.size))
          clear b5 j0 j1 jf jl HIS
          go_wp2_with fail
          refine (torder_is T5.out now hnow0 hnow1).mono ?_
          rintro e w6 ⟨aL, cL, rfl, hrL, hcL, b6⟩
          have RL6 := Lib.hid hrL
          have T6 := Lib.hid (T5.out.below b6)
          have BT6 := Lib.hid (BT5.out.below b6)
          have RW6 := Lib.hid (RW5.out.below b6)
          have B6 := Lib.hid (B5.out.trans (b6.mono B5.out.size))
          have HSAME := Lib.hid (order_same (now := now) T6.out.2.2.2)
          have hsorted : (orderL R now fx).Pairwise (Ahead (ltU R now fx)) := sortL_sorted (weakU (now := now) T6.out.2.2.2) (inL 1 fx) (fun x hx => inL_lt hx) (placesL_increasing _ _ _)
          have hmem : ∀ i ∈ orderL R now fx, i < fx.length := fun i hi => inL_lt ((sortL_perm (ltU R now fx) (inL 1 fx)).mem_iff.1 hi)
          have hlenL : (orderL R now fx).length ≤ 200 := by
            have h1 : (orderL R now fx).length = (inL 1 fx).length := sortL_length _ _
            have h2 := placesL_length (fun u : UseD => u.state == 1) fx fx.length
            have h3 := HFL.out
            unfold inL at h1
            omega
          have HSRT := Lib.hid hsorted
          have HMEM := Lib.hid hmem
          have HBET := Lib.hid (fun (W : World) (hW : Below w6.heap.size w6 W) (i j : Nat) (u v : UseD) (hu : fx[i]? = some u) (hv : fx[j]? = some v) => rbetter_is R aw cw fx i j u v hu hv now hnow0 hnow1 W (RW6.out.below hW) (HALL.out u (List.mem_of_getElem? hu)) (HALL.out v (List.mem_of_getElem? hv)) hR1 hR2)
          have HRO6 := Lib.hid (fun (W : World) (hW : Below w6.heap.size w6 W) => rorder_is R aw cw fx now hnow0 hnow1 W (RW6.out.below hW) T6.out.2.2.2)
          rw [HFL.out] at HBET HRO6
          have HWK := Lib.hid (weakU (now := now) T6.out.2.2.2)
          obtain ⟨M, hM⟩ : ∃ M, orderL R now fx = M := ⟨_, rfl⟩
          rw [hM] at RL6 HSAME HSRT HMEM hlenL hcL ⊢
          obtain ⟨m, hm⟩ : ∃ m, M.length = m := ⟨_, rfl⟩
          have HMM := Lib.hid hm
          rw [hm] at hlenL hcL RL6 ⊢
          clear hrL b6 hsorted hmem hM hm
          go_wp2_with fail
          go_loopw [14] (fun i wr => ∃ q : Nat, 1 ≤ q ∧ (q ≤ m ∨ q = 1) ∧ i = .int .i64 q ∧ Hid (Below w6.heap.size w6 wr)) (fun i _ => m - (intOf i).toNat)
          case atStart => exact ⟨1, Nat.le_refl _, .inr rfl, rfl, Below.refl _ _⟩
          case round =>
            obtain ⟨q, hq1, hq2, rfl, HBq⟩ := hrel
            obtain ⟨wo, rfl⟩ : ∃ wo : World, wo = wr := ⟨_, rfl⟩
            by_cases hqm : q < m
            · obtain ⟨j, rfl⟩ : ∃ j, q = j + 1 := ⟨q - 1, by omega⟩
              obtain ⟨x, hx⟩ : ∃ x, M[j]? = some x := ⟨_, List.getElem?_eq_getElem (by rw [HMM.out]; omega)⟩
              obtain ⟨y, hy⟩ : ∃ y, M[j + 1]? = some y := ⟨_, List.getElem?_eq_getElem (by rw [HMM.out]; omega)⟩
              have hxm := HMEM.out x (List.mem_of_getElem? hx)
              have hym := HMEM.out y (List.mem_of_getElem? hy)
              obtain ⟨u, hu⟩ : ∃ u, fx[x]? = some u := ⟨_, List.getElem?_eq_getElem hxm⟩
              obtain ⟨v, hv⟩ : ∃ v, fx[y]? = some v := ⟨_, List.getElem?_eq_getElem hym⟩
              have hah : Ahead (ltU R now fx) x y := by
                obtain ⟨h1, e1⟩ := List.getElem?_eq_some_iff.1 hx
                obtain ⟨h2, e2⟩ := List.getElem?_eq_some_iff.1 hy
                rw [← e1, ← e2]
                exact List.pairwise_iff_getElem.1 HSRT.out j (j + 1) h1 h2 (by omega)
              have hxy : ltU R now fx x y = betterB R now u v := by unfold ltU; rw [hu, hv]
              have hyx : ltU R now fx y x = betterB R now v u := by unfold ltU; rw [hu, hv]
              have hB1 : betterB R now v u = false := by
                rw [← hyx]
                rcases hah with h | ⟨h, _⟩
                · exact HWK.out.asym hxm hym h
                · exact h
              obtain ⟨gL, oL, rfl, _, cx⟩ := (RL6.out.below HBq.out).at (natV_get hx)
              obtain ⟨gL', oL', e2, _, cy⟩ := (RL6.out.below HBq.out).at (natV_get hy)
              obtain ⟨rfl, rfl⟩ : gL = gL' ∧ oL = oL' := by simpa using e2
              have cy' : wo.cell? ⟨gL, oL + j + 1, none⟩ = some (.int .i64 (y : Int)) := cy
              obtain ⟨k0, k1, _, _⟩ := (BT6.out.below HBq.out).cells
              have BYX := Lib.hid (fun W (hW : Below w6.heap.size w6 W) => HBET.out W hW y x v u hv hu)
              have BXY := Lib.hid (fun W (hW : Below w6.heap.size w6 W) => HBET.out W hW x y u v hu hv)
              rw [hB1] at BYX
              have hj1 : (0 : Int) ≤ (j : Int) := by omega
              have hj2 : (j : Int) < (m : Int) := by omega
              have hj3 : (j : Int) + 1 < (m : Int) := by omega
              have hj4 : (0 : Int) ≤ (j : Int) + 1 := by omega
              cases hbb : betterB R now u v with
              | true =>
                rw [hbb] at BXY
                clear hx hy hu hv hah hxy hyx hB1 e2 hxm hym hbb
                go_wp2_with fail
                have s1 : IntKind.i64.wrap ((j : Int) + 1 - 1) = (j : Int) := by rw [IntWalk.i64_in _ (by omega)]; omega
                have s2 : IntKind.i64.wrap (j : Int) = (j : Int) := IntWalk.i64_in _ (by omega)
                have p0 := cell_regrown k0
                have p1 := cell_regrown k1
                have p2 := cell_regrown cx
                have p3 := cell_regrown cy
                refine wp_region_quiet_below (by kernel_rfl) (by kernel_rfl) ?_
                repeat (go_big_quiet_step (first
                  | (go_at_call_of 31 ([Value.int IntKind.i64 (y : Int), Value.int IntKind.i64 (x : Int), Value.int IntKind.u32 now]); exact Calls.regrown_of (BYX.out _ (below_next HBq.out (below_regrown _ _ _))))
                  | (go_at_call_of 31 ([Value.int IntKind.i64 (x : Int), Value.int IntKind.i64 (y : Int), Value.int IntKind.u32 now]); exact Calls.regrown_of (BXY.out _ (below_next HBq.out (below_regrown _ _ _))))))
                refine wpQuiet_nil (regrown_name fun w8 b8 => ?_)
                clear s1 s2 p0 p1 p2 p3
                go_wp2
                go_roundw
                case rel => exact ⟨j + 1 + 1, by omega, .inl (by omega), by go_num, below_next HBq.out b8⟩
                case measure => simp [intOf]; omega
              | false =>
                rw [hbb] at BXY
                have hlt2 : x < y := by
                  rcases hah with h | ⟨_, h⟩
                  · rw [hxy, hbb] at h; cases h
                  · exact h
                have hnt : decide (y < x) = false := decide_eq_false (by omega)
                have hnt2 : ¬ y < x := by omega
                have hnt3 : x ≤ y := by omega
                clear hx hy hu hv hah hxy hyx hB1 e2 hxm hym hbb hlt2
                go_wp2_with fail
                have s1 : IntKind.i64.wrap ((j : Int) + 1 - 1) = (j : Int) := by rw [IntWalk.i64_in _ (by omega)]; omega
                have s2 : IntKind.i64.wrap (j : Int) = (j : Int) := IntWalk.i64_in _ (by omega)
                have p0 := cell_regrown k0
                have p1 := cell_regrown k1
                have p2 := cell_regrown cx
                have p3 := cell_regrown cy
                refine wp_region_quiet_below (by kernel_rfl) (by kernel_rfl) ?_
                repeat (go_big_quiet_step (first
                  | (go_at_call_of 31 ([Value.int IntKind.i64 (y : Int), Value.int IntKind.i64 (x : Int), Value.int IntKind.u32 now]); exact Calls.regrown_of (BYX.out _ (below_next HBq.out (below_regrown _ _ _))))
                  | (go_at_call_of 31 ([Value.int IntKind.i64 (x : Int), Value.int IntKind.i64 (y : Int), Value.int IntKind.u32 now]); exact Calls.regrown_of (BXY.out _ (below_next HBq.out (below_regrown _ _ _))))))
                refine wpQuiet_nil (regrown_name fun w8 b8 => ?_)
                clear s1 s2 p0 p1 p2 p3
                go_wp2
                go_roundw
                case rel => exact ⟨j + 1 + 1, by omega, .inl (by omega), by go_num, below_next HBq.out b8⟩
                case measure => simp [intOf]; omega
            · have hge : ¬ (q : Int) < (m : Int) := by omega
              obtain ⟨k0, k1, _, _⟩ := (BT6.out.below HBq.out).cells
              go_wp2_with fail
              refine (HRO6.out _ HBq.out).mono ?_
              rintro e w8 ⟨v8, rfl, o8, b8⟩
              rw [← HSAME.out] at o8
              obtain ⟨a8, c8, rfl, hr8, _, _⟩ := o8.reads
              rw [natV_length, HMM.out] at hr8 ⊢
              have R8 := Lib.hid hr8
              have RL8 := Lib.hid ((RL6.out.below HBq.out).below b8)
              have B8 := Lib.hid (below_next HBq.out b8)
              have HI := Lib.hid (ints_same M aL a8 cL c8 w8 (by rw [HMM.out]; exact RL8.out) (by rw [HMM.out]; exact R8.out) (by rw [HMM.out]; omega))
              rw [HMM.out] at HI
              clear hr8 o8 b8 k0 k1
              go_wp2_with fail
              refine HI.out.mono ?_
              rintro e w9 ⟨rfl, b9⟩
              go_wp2
              go_ret
              exact ⟨rfl, B6.out.trans ((below_next B8.out b9).mono B6.out.size)⟩
set_option maxRecDepth 100000 in
theorem usageOrders_lifted (os : Os) (started : os.Started) (H : Type) (enc : TypeId × Value → H) :
    ReturnsInHanded {} Try.checked os 6 .any (Rows.usageOrdersSpec.pre6 enc Try.prog Try.f6 Rows.usageOrdersRow.domain false) (Rows.usageOrdersSpec.post enc Try.prog Try.f6 false true false false) :=
  law_lifted (s := Rows.usageOrdersSpec) started Try.func6 (by kernel_rfl) rfl (fun ds hd => by
        match ds, hd with
        | [_, _, _], _ => rfl) rfl
      (of_decide_eq_true (by kernel_rfl))
      (ChangeSpec.witness6 (enc := enc) (C := Try.checked) false ⟨#[], #[.int .i64 0, .slice none 0 0, .int .u32 0], []⟩ 8 (by kernel_rfl) (by kernel_rfl) (by kernel_rfl) (by kernel_rfl))
      (fun W base args ds ps hval hA hsz => by
        rw [Try.params6] at hA hval hsz
        obtain ⟨v0, vs0, d0, ds0, p0, q0, hargs, rfl, rfl, h0, r0⟩ := trodAll_cons hA
        obtain ⟨v1, vs1, d1, ds1, p1, q1, rfl, rfl, rfl, h1, r1⟩ := trodAll_cons r0
        obtain ⟨v2, vs2, d2, ds2, p2, q2, rfl, rfl, rfl, h2, r2⟩ := trodAll_cons r1
        obtain ⟨rfl, rfl, rfl⟩ := trodAll_nil r2
        obtain rfl : args = #[v0, v1, v2] := by cases args; simp_all
        simp only [DataW.weightsEach, List.all_append, Bool.and_eq_true] at hsz
        obtain ⟨z0, z1, z2, _⟩ := hsz
        obtain ⟨n, rfl, rfl, rfl, wf⟩ := open_int Try.underlying3 (hval 0 3 v0 rfl rfl) h0
        obtain ⟨a, cap, us, rfl, hr, hc, hfit⟩ := open_uses (hval 1 43 v1 rfl rfl) h1
        obtain ⟨now, rfl, rfl, rfl, wf2⟩ := open_int Try.underlying26 (hval 2 26 v2 rfl rfl) h2
        exact usageOrders_walk n now a cap us W (i64_of_wf wf) (u32_of_wf wf2).1 (u32_of_wf wf2).2 hr hc hfit)

theorem usageOrders_holds : Rows.UsageOrdersSaid :=
  OpenClaim.holds_of_wide 6 Try.f6 rfl rfl rfl rfl rfl rfl rfl ⟨rfl, rfl, rfl, rfl, rfl⟩ rfl rfl rfl rfl rfl (by kernel_rfl) Try.func6 (by kernel_rfl)
    (of_decide_eq_true (by kernel_rfl)) (by unfold Func.isWrapper; first | (rw [if_pos (by decide +kernel)]; kernel_rfl) | (rw [if_neg (by decide +kernel)]; exact ⟨rfl, rfl⟩))
    (fun os started H enc _ => usageOrders_lifted os started H enc)
#print axioms usageOrders_holds
end Go.Proofs.Ytnlbjpnhepdicaa
