/- A sealed sector of Records read (codec.read); codec's own WriteRecords and ReadRecords. Codec's own ReadRecords. Plain facts on how a disk is parted: no program is spoken of. The program's geometry, by its walks. The program's geometry, by its walks: the counts. The program's geometry, by its walks: the places. The superblock, written by the program's walk. -/
import Derived.Test.YtgakidimipipeaaGreatGmkmilbkc
import Derived.Deep.RegionHeld3
import Derived.Test.YtgakidimipipeaaGreatGegjignoa
import Derived.Below
import Derived.Test.YtgakidimipipeaaGreatHush
import Derived.Test.YtgakidimipipeaaGreatGbogodnbb
namespace Go.Proofs.YtgakidimipipeaaGreat
open Go.RowKit Go.Sort
set_option linter.unusedVariables false
set_option linter.unusedSimpArgs false
set_option maxRecDepth 100000

noncomputable def readRecord (s : List Nat) : List (List FldD) × Int := if (writeRecord (itemsR zeroRecord (bO s))).2 = 0 ∧ (writeRecord (itemsR zeroRecord (bO s))).1 = s then (itemsR zeroRecord (bO s), 0) else ([], 21)
set_option maxHeartbeats 1600000 in
theorem readRecord_is {w : World} (s : List Nat) (hs : s.length = 128) (hb : Bytes s) (vu vr : Value) (hu : IsUpRecord w vu) (hv : IsRestRecord w vr) :
    Calls Tryz.prog 60 #[.int .u8 7, .agg (cells s), vu, vr] w (ReadsPost 56 4 w (readRecord s)) := by
  have hz := zero_sector
  have b1 := below_box w (.cells (cells s) 31)
  have n1 := heap_alloc_new w (.cells (cells s) 31)
  have hu1 := hu.below b1
  have hv1 := hv.below b1
  obtain ⟨w1, hw1⟩ : ∃ w1, w.alloc (.cells (cells s) 31) = w1 := ⟨_, rfl⟩
  have hs1 : w1.heap.size = w.heap.size + 1 := by rw [← hw1]; simp
  rw [hw1] at b1 n1 hu1 hv1
  have HU := Lib.hid hu1
  have HV := Lib.hid hv1
  have HB := Lib.hid b1
  have HC := Lib.hid (box_cells hs n1)
  have HITS := Lib.hid (itemsRecord_is (bO_bytes hb))
  have hblen := bO_length hs
  obtain ⟨gr, hvr, _⟩ := id hv
  subst hvr
  clear b1 hu hv hu1 hv1
  go_enter Tryz.func60, Tryz.ntmps60
  go_wp2_with (refine wpList_load_sector rfl _ rfl w.heap.size 0 s (by go_simp) hs HC.out ?_)
  refine (open_any2 s hs hb w1).mono ?_
  rintro e w3 ⟨b3, h3⟩
  have n1'' := (b3.block w.heap.size (by omega)).trans n1
  have HB3 : Hid (Below w.heap.size w w3) := HB.out.trans (b3.mono HB.out.size)
  have hs3 : w.heap.size + 1 ≤ w3.heap.size := by have := b3.size; omega
  have HU3 := Lib.hid (HU.out.below b3)
  have HV3 := Lib.hid (HV.out.below b3)
  obtain ⟨k, a3, cap3, er, he, hr3, hc3, hm3⟩ : ∃ (k : Nat) (a3 : Option Addr) (cap3 : Nat) (er : Int), e = .returned (.tuple #[.int .u8 k, .slice a3 (bO s).length cap3, .int .i64 er]) ∧ Reads w3 a3 (bO s).length (bO s) ∧ (bO s).length ≤ cap3 ∧ cap3 ≤ maxLen := by
    rcases h3 with ⟨ho, a, cap, he, hr, hc, hm⟩ | ⟨ho, he⟩
    · have e : bO s = bodyL s := if_pos ho
      rw [e]
      exact ⟨_, a, cap, _, he, hr, hc, hm⟩
    · have e : bO s = [] := if_neg (by rw [ho]; decide)
      rw [e]
      exact ⟨0, none, 0, 21, he, ⟨rfl, by intro x hx; simp at hx, .inl rfl⟩, Nat.le_refl _, by unfold maxLen; omega⟩
  subst he
  obtain ⟨g', hge, hgn⟩ := HV3.out
  obtain rfl : gr = g' := by simpa using hge
  have HPR := Lib.hid (preadRecord_is _ hgn hr3 hc3 hm3 (by omega))
  clear h3 b3 n1 HB HC hw1 hs1 HU HV hge hgn hr3
  go_wp2_with fail
  refine HPR.out.mono ?_
  rintro e w4 ⟨b4, v4, rfl, ho4⟩
  have HX : Hid (readRecord s = if (writeRecord (itemsR zeroRecord (bO s))).2 = 0 ∧ (writeRecord (itemsR zeroRecord (bO s))).1 = s then (itemsR zeroRecord (bO s), 0) else ([], 21)) := rfl
  obtain ⟨x, hx⟩ : ∃ x, itemsR zeroRecord (bO s) = x := ⟨_, rfl⟩
  rw [hx] at HX ho4 HITS
  obtain ⟨a4, c4, rfl, hr4, _⟩ := owned_list ho4
  have n14 := (b4.block w.heap.size (by omega)).trans n1''
  have HB4 : Hid (Below w.heap.size w w4) := HB3.out.trans (b4.mono HB3.out.size)
  have hs4 : w.heap.size + 1 ≤ w4.heap.size := Nat.le_trans hs3 b4.size
  have HO4 := Lib.hid (ho4.less (show w.heap.size ≤ w3.heap.size by omega))
  have HW := Lib.hid (writeRecord_is x HITS.out a4 c4 hr4 vu _ (HU3.out.below b4) (HV3.out.below b4))
  have hmk := writeRecord_length HITS.out
  obtain ⟨mk, hmke⟩ : ∃ mk, (writeRecord x).1 = mk := ⟨_, rfl⟩
  obtain ⟨er2, here⟩ : ∃ er2, (writeRecord x).2 = er2 := ⟨_, rfl⟩
  rw [hmke, here] at HX HW
  rw [hmke] at hmk
  obtain ⟨nx, hnx⟩ : ∃ nx, x.length = nx := ⟨_, rfl⟩
  have HNX := Lib.hid hnx
  rw [hnx] at HW HO4 ⊢
  clear n1'' HB3 hs3 b4 ho4 hr4 hx hc3 hm3 HPR HU3 HV3 hmke here hnx
  go_wp2_with fail
  refine HW.out.mono ?_
  rintro e w6 ⟨rfl, b6⟩
  have n16 := (b6.block w.heap.size (by omega)).trans n14
  have HB6 : Hid (Below w.heap.size w w6) := HB4.out.trans (b6.mono HB4.out.size)
  have hs6 : w.heap.size + 1 ≤ w6.heap.size := by have := b6.size; omega
  have ho6 := HO4.out.below b6
  have nn := heap_alloc_new w6 (.cells (cells noughts) 31)
  have b7 := below_box w6 (.cells (cells mk) 31)
  have n7 := heap_alloc_new w6 (.cells (cells mk) 31)
  have e7 := World.setRow_alloc_new w6 (cells noughts) (cells mk) 31
  have HO7 := Lib.hid (ho6.below b7)
  obtain ⟨w7, hw7⟩ : ∃ w7, w6.alloc (.cells (cells mk) 31) = w7 := ⟨_, rfl⟩
  rw [hw7] at b7 n7 e7 HO7
  have n17 := (b7.block w.heap.size (by omega)).trans n16
  have HB7 : Hid (Below w.heap.size w w7) := HB6.out.trans (b7.mono HB6.out.size)
  obtain ⟨m2, hm2⟩ : ∃ m2, w6.heap.size = m2 := ⟨_, rfl⟩
  rw [hm2] at n7 e7 nn hs6
  have HC7 := Lib.hid (block_cells hmk n7)
  have HCs := Lib.hid (block_cells hs n17)
  have hneq := run_neq_sector mk s hmk hs
  clear n16 HB6 b6 b7 hw7 n14 HB4 hs4 HO4 ho6 HW n7 n17
  by_cases her : er2 = 0
  · subst her
    by_cases hms : mk = s
    · have hfin : readRecord s = (x, 0) := HX.out.trans (if_pos ⟨rfl, hms⟩)
      have HF := Lib.hid hfin
      rw [decide_eq_true hms, Bool.not_true] at hneq
      clear hfin hms
      go_wp2_with (first
        | (refine wpList_store_sector rfl _ _ rfl m2 mk rfl rfl hmk _ _ nn rfl ?_; rw [e7])
        | refine wpList_load_sector_want rfl _ rfl m2 0 mk rfl hmk HC7.out ?_
        | refine wpList_load_sector_want rfl _ rfl w.heap.size 0 s rfl hs HCs.out ?_)
      go_ret2
      unfold ReadsPost
      rw [HF.out]
      refine ⟨HB7.out, a4, c4, ?_, ?_⟩
      · show _ = Ending.returned (.tuple #[.slice a4 x.length c4, .int .i64 0])
        rw [HNX.out]; rfl
      · show OwnsR' _ _ _ _ (.slice a4 x.length c4) (x.map rowV)
        rw [HNX.out]; exact HO7.out
    · have hfin : readRecord s = ([], 21) := HX.out.trans (if_neg (fun h => hms h.2))
      have HF := Lib.hid hfin
      rw [decide_eq_false hms, Bool.not_false] at hneq
      clear hfin hms
      go_wp2_with (first
        | (refine wpList_store_sector rfl _ _ rfl m2 mk rfl rfl hmk _ _ nn rfl ?_; rw [e7])
        | refine wpList_load_sector_want rfl _ rfl m2 0 mk rfl hmk HC7.out ?_
        | refine wpList_load_sector_want rfl _ rfl w.heap.size 0 s rfl hs HCs.out ?_)
      go_ret2
      unfold ReadsPost
      rw [HF.out]
      exact ⟨HB7.out, none, 0, rfl, OwnsR'.nil _ _ _ _⟩
  · have hne0 : (er2 == 0) = false := by simpa using her
    have hfin : readRecord s = ([], 21) := HX.out.trans (if_neg (fun h => her h.1))
    have HF := Lib.hid hfin
    clear hfin
    go_wp2_with (first
      | (refine wpList_store_sector rfl _ _ rfl m2 mk rfl rfl hmk _ _ nn rfl ?_; rw [e7])
      | refine wpList_load_sector_want rfl _ rfl m2 0 mk rfl hmk HC7.out ?_
      | refine wpList_load_sector_want rfl _ rfl w.heap.size 0 s rfl hs HCs.out ?_)
    go_ret2
    unfold ReadsPost
    rw [HF.out]
    exact ⟨HB7.out, none, 0, rfl, OwnsR'.nil _ _ _ _⟩
set_option maxHeartbeats 1600000 in
theorem writeRecords_is {w : World} (L : List (List FldD)) (hL : ∀ x ∈ L, IsFRecord x) (a : Option Addr) (cap : Nat) (hr : ReadsR w a 4 (L.map rowV)) :
    Calls Tryz.prog 4 #[.slice a L.length cap] w fun e w' => e = .returned (.tuple #[.agg (cells (writeRecord L).1), .int .i64 (writeRecord L).2]) ∧ Below w.heap.size w w' := by
  have hz := zero_sector
  have b1 := below_box w (.cells (cells noughts) 31)
  have n1 := heap_alloc_new w (.cells (cells noughts) 31)
  have hr1 := hr.below b1
  obtain ⟨w1, hw1⟩ : ∃ w1, w.alloc (.cells (cells noughts) 31) = w1 := ⟨_, rfl⟩
  have hs1 : w1.heap.size = w.heap.size + 1 := by rw [← hw1]; simp
  rw [hw1] at b1 n1 hr1
  have HB := Lib.hid b1
  have HR1 := Lib.hid hr1
  have HL := Lib.hid hL
  have hlen := writeRecord_length hL
  obtain ⟨n, hn⟩ : ∃ n, L.length = n := ⟨_, rfl⟩
  have HN := Lib.hid hn
  rw [hn]
  clear hr b1 hr1 hL hn
  go_enter Tryz.func4, Tryz.ntmps4
  go_wp2_with fail
  refine (uptoRecord_is w1).mono ?_
  rintro e w2 ⟨vu, rfl, hu2, b2⟩
  have HU2 := Lib.hid hu2
  have HB2 := Lib.hid b2
  obtain ⟨u1, u2, rfl, _⟩ := hu2
  clear b2
  go_wp2_with fail
  refine (rest0Record_is w2).mono ?_
  rintro e w3 ⟨vr, rfl, hv3, b3⟩
  have HW := writeRecord_is L HL.out a cap ((HR1.out.below HB2.out).below b3) _ _ (HU2.out.below b3) hv3
  rw [HN.out] at HW
  have HW' := Lib.hid HW
  obtain ⟨u3, rfl, _⟩ := hv3
  have n3 := (b3.block w.heap.size (by have := HB2.out.size; omega)).trans ((HB2.out.block w.heap.size (by omega)).trans n1)
  have HB3 : Hid (Below w.heap.size w w3) := Lib.hid (below_next (below_next HB.out HB2.out) b3)
  have hs3 : w.heap.size + 1 ≤ w3.heap.size := by have := b3.size; have := HB2.out.size; omega
  clear b3 HW n1 hw1 hs1 HB HB2 HU2 HR1
  go_wp2_with fail
  refine HW'.out.mono ?_
  rintro e w5 ⟨rfl, b5⟩
  obtain ⟨s, hse⟩ : ∃ s, (writeRecord L).1 = s := ⟨_, rfl⟩
  obtain ⟨er, here⟩ : ∃ er, (writeRecord L).2 = er := ⟨_, rfl⟩
  have HS := Lib.hid (And.intro hse here)
  rw [hse, here]
  rw [hse] at hlen
  have n5 := (b5.block w.heap.size (by omega)).trans n3
  have hd := setRow_heap w5 w.heap.size _ (cells s) _ _ n5
  have hb := below_setRow (g := w.heap.size) (HB3.out.trans (b5.mono HB3.out.size)) (Nat.le_refl _) (cells s)
  clear b5 n3 HB3 hse here HW'
  go_wp2_with (refine wpList_store_sector rfl _ _ rfl w.heap.size s rfl rfl hlen _ _ n5 rfl ?_)
  refine bodyPost_ret (results_sector rfl _ _ w.heap.size s _ _ rfl hd hlen) rfl ?_
  exact ⟨by rw [HS.out.1, HS.out.2]; rfl, hb⟩
end Go.Proofs.YtgakidimipipeaaGreat

namespace Go.Proofs.YtgakidimipipeaaGreat
open Go.RowKit Go.Sort
set_option linter.unusedVariables false
set_option linter.unusedSimpArgs false
set_option maxRecDepth 100000

set_option maxHeartbeats 3200000 in
theorem readRecords_is {w : World} (s : List Nat) (hs : s.length = 128) (hb : Bytes s) :
    Calls Tryz.prog 23 #[.agg (cells s)] w (ReadsPost 56 4 w (readRecord s)) := by
  have b1 := below_box w (.cells (cells s) 31)
  have n1 := heap_alloc_new w (.cells (cells s) 31)
  obtain ⟨w1, hw1⟩ : ∃ w1, w.alloc (.cells (cells s) 31) = w1 := ⟨_, rfl⟩
  have hs1 : w1.heap.size = w.heap.size + 1 := by rw [← hw1]; simp
  rw [hw1] at b1 n1
  have HR : Hid (w1.rangeAt w.heap.size 0 (s.map byteV)) := Lib.hid (by have := row_range n1; simpa [cells] using this)
  have hgl : w.heap.size < w1.heap.size := by omega
  have hu := row_sector
  have hsz : (Tryz.prog.info? 31).map (·.size) = some (s.map byteV).length := by rw [size_sector, List.length_map, hs]
  have hl8 : (s.map byteV).length = 128 := by rw [List.length_map, hs]
  have hone := byteV_oneCell s
  have HB := Lib.hid b1
  have HREAD := Lib.hid (fun (W : World) (hW : Below w1.heap.size w1 W) (vu vr : Value) (hu : IsUpRecord W vu) (hv : IsRestRecord W vr) => (readRecord_is s hs hb vu vr hu hv).mono fun e w' k => And.intro (hW.trans (k.1.mono hW.size)) (readsPost_up (below_next b1 hW) k))
  obtain ⟨⟨rl, re⟩, hre⟩ : ∃ r, readRecord s = r := ⟨_, rfl⟩
  obtain ⟨rn, hrn⟩ : ∃ n, rl.length = n := ⟨_, rfl⟩
  have HRN := Lib.hid hrn
  rw [hre] at HREAD ⊢
  have H1 := (Below.refl w1.heap.size w1).drew
  clear b1 n1 hre hrn
  go_enter Tryz.func23, Tryz.ntmps23
  go_wp2_with fail
  go_region_held3 (fun W => W.rangeAt w.heap.size 0 (s.map byteV) ∧ Below w1.heap.size w1 W) (first | exact ⟨range_bel H1 hgl HR.out, H1⟩ | exact ⟨range_bel k5 hgl HR.out, k5⟩ | exact ⟨range_bel k6 hgl HR.out, k6⟩ | exact ⟨range_bel k7 hgl HR.out, k7⟩)
    ((first
      | (go_at_call 14; refine (uptoRecord_is _).mono ?_; rintro e w5 ⟨vu, rfl, hU, b5⟩; first | (have k5 := k6.trans (b5.mono k6.size); have hUr := hU; have hVr := hV.below b5) | (have k5 := H1.trans (b5.mono H1.size)); obtain ⟨u1, u2, rfl, _, _⟩ := id hU)
      | (go_at_call 16; refine (rest0Record_is _).mono ?_; rintro e w6 ⟨vr, rfl, hV, b6⟩; first | (have k6 := k5.trans (b6.mono k5.size); have hUr := hU.below b6; have hVr := hV) | (have k6 := H1.trans (b6.mono H1.size)); obtain ⟨u3, rfl, _⟩ := id hV)
      | (go_at_call 60; refine (HREAD.out _ (by first | exact k6 | exact k5) _ _ hUr hVr).mono ?_; rintro e w7 ⟨b7, q7⟩; have k7 := b7; have HQ := Lib.hid q7; obtain ⟨_, a7, c7, rfl, o7⟩ := id q7; clear q7 o7; rw [show ((rl, re) : List (List FldD) × Int).1.length = rn from HRN.out])))
  all_goals
    go_wp2
    go_ret2
    have hq := HQ.out
    rw [show ((rl, re) : List (List FldD) × Int).1.length = rn from HRN.out] at hq
    exact hq
end Go.Proofs.YtgakidimipipeaaGreat

namespace Go.Proofs.YtgakidimipipeaaGreat
open Go.RowKit

def bnd (s g i : Int) : Prop := 8 ≤ s ∧ s ≤ 200 ∧ 1 ≤ g ∧ g ≤ 32 ∧ 2 ≤ i ∧ i ≤ 200
instance bndDec (s g i : Int) : Decidable (bnd s g i) := by unfold bnd; exact inferInstance
theorem bnd_dec (s g i : Int) : bnd s g i ∨ ¬ bnd s g i := Classical.em _
def upI (n k : Int) : Int := (n + k - 1) / k
def chunksI (i : Int) : Int := (i + 9) / 10
def tablesI (s : Int) : Int := (s + 14) / 15
def xI (g i : Int) : Int := upI (chunksI i) (8 * g)
def mostI (s g i : Int) : Int := if s - 6 - 2 * xI g i < 0 then 0 else (s - 6 - 2 * xI g i) / 2
def roomI (s g i : Int) : Int := mostI s g i * (8 * g)
def regI (s i : Int) : Int := 1 + chunksI i + tablesI s
def logI (s i : Int) : Int := 1 + 2 * regI s i
def sectorsI (s g i : Int) : Int := logI s i + s * g * 9

theorem upI_bd (n k : Int) (h0 : 0 ≤ n) (hk : 1 ≤ k) : 0 ≤ upI n k ∧ upI n k ≤ n ∧ (n ≤ upI n k * k ∧ upI n k * k < n + k) := by
  unfold upI
  have h1 : k * ((n + k - 1) / k) + (n + k - 1) % k = n + k - 1 := Int.mul_ediv_add_emod ..
  have h2 := Int.emod_nonneg (n + k - 1) (show k ≠ 0 by omega)
  have h3 := Int.emod_lt_of_pos (n + k - 1) (show 0 < k by omega)
  have h4 : 0 ≤ (n + k - 1) / k := Int.ediv_nonneg (by omega) (by omega)
  rw [Int.mul_comm k] at h1
  refine ⟨h4, ?_, by omega, by omega⟩
  by_cases hn : n = 0
  · subst hn
    have : (0 + k - 1) / k = 0 := Int.ediv_eq_zero_of_lt (by omega) (by omega)
    omega
  · have h5 : (n + k - 1) / k * 1 ≤ (n + k - 1) / k * k := Int.mul_le_mul_of_nonneg_left (by omega) h4
    rw [Int.mul_one] at h5
    by_cases hq : (n + k - 1) / k ≤ n
    · exact hq
    · exfalso
      have h6 : (n + 1) * k ≤ (n + k - 1) / k * k := Int.mul_le_mul_of_nonneg_right (by omega) (by omega)
      have h7 : (n + 1) * k = n * k + k := by rw [Int.add_mul, Int.one_mul]
      have h8 : n * 1 ≤ n * k := Int.mul_le_mul_of_nonneg_left (by omega) (by omega)
      rw [Int.mul_one] at h8
      omega
theorem upI_end {n k j : Int} (hk : 1 ≤ k) (h1 : n ≤ j * k) (h2 : j = 0 ∨ (j - 1) * k < n) (h0 : 0 ≤ n) : upI n k = j := by
  obtain ⟨a1, a2, a3, a4⟩ := upI_bd n k h0 hk
  generalize upI n k = u at *
  rcases Int.lt_trichotomy u j with h | h | h
  · exfalso
    rcases h2 with h2 | h2
    · omega
    · have : u * k ≤ (j - 1) * k := Int.mul_le_mul_of_nonneg_right (by omega) (by omega)
      omega
  · exact h
  · exfalso
    have : (j + 1) * k ≤ u * k := Int.mul_le_mul_of_nonneg_right (by omega) (by omega)
    rw [Int.add_mul, Int.one_mul] at this
    omega
theorem chunks_bd {s g i : Int} (h : bnd s g i) : 1 ≤ chunksI i ∧ chunksI i ≤ 20 := by unfold bnd at h; unfold chunksI; omega
theorem tables_bd {s g i : Int} (h : bnd s g i) : 1 ≤ tablesI s ∧ tablesI s ≤ 14 := by unfold bnd at h; unfold tablesI; omega
theorem xI_bd {s g i : Int} (h : bnd s g i) : 1 ≤ xI g i ∧ xI g i ≤ 3 := by
  have hc := chunks_bd h
  unfold bnd at h
  have hu := upI_bd (chunksI i) (8 * g) (by omega) (by omega)
  unfold xI
  obtain ⟨h1, h2, h3, h4⟩ := hu
  generalize upI (chunksI i) (8 * g) = x at *
  generalize chunksI i = c at *
  have e : x * (8 * g) = 8 * (x * g) := by rw [← Int.mul_assoc, Int.mul_comm x 8, Int.mul_assoc]
  rw [e] at h3 h4
  constructor
  · rcases Int.lt_or_le 0 x with hx | hx
    · omega
    · have : x = 0 := by omega
      subst this
      simp at h3
      omega
  · rcases Int.lt_or_le 3 x with hx | hx
    · exfalso
      have : 4 * g ≤ x * g := Int.mul_le_mul_of_nonneg_right (by omega) (by omega)
      have : 4 * 1 ≤ 4 * g := by omega
      have e2 : x * g = (x - 1) * g + g := by rw [Int.sub_mul, Int.one_mul]; omega
      have : 3 * g ≤ (x - 1) * g := Int.mul_le_mul_of_nonneg_right (by omega) (by omega)
      omega
    · exact hx
theorem mostI_bd {s g i : Int} (h : bnd s g i) : 0 ≤ mostI s g i ∧ 2 * mostI s g i ≤ s - 6 ∧ mostI s g i ≤ 96 := by
  have hx := xI_bd h
  unfold bnd at h
  unfold mostI
  split <;> omega
theorem room_bd {s g i : Int} (h : bnd s g i) : 0 ≤ roomI s g i ∧ roomI s g i ≤ 24576 := by
  have hm := mostI_bd h
  unfold bnd at h
  unfold roomI
  constructor
  · exact Int.mul_nonneg (by omega) (by omega)
  · have h1 : mostI s g i * (8 * g) ≤ 96 * (8 * g) := Int.mul_le_mul_of_nonneg_right (by omega) (by omega)
    omega
/-- may it be? -/
def mayB (s g i : Int) : Bool := decide (bnd s g i ∧ 8 ≤ roomI s g i)
theorem mayB_yes {s g i : Int} (h : mayB s g i = true) : bnd s g i ∧ 8 ≤ roomI s g i := of_decide_eq_true h
theorem mayB_mk {s g i : Int} (h : bnd s g i) (k : 8 ≤ roomI s g i) : mayB s g i = true := decide_eq_true ⟨h, k⟩
theorem mayB_no {s g i : Int} (h : ¬ bnd s g i) : mayB s g i = false := decide_eq_false fun k => h k.1
theorem mayB_no2 {s g i : Int} (h : ¬ 8 ≤ roomI s g i) : mayB s g i = false := decide_eq_false fun k => h k.2
theorem mayB_room {s g i : Int} (h : bnd s g i) : mayB s g i = decide (8 ≤ roomI s g i) := by
  unfold mayB; rw [decide_eq_decide]; exact ⟨fun k => k.2, fun k => ⟨h, k⟩⟩
theorem reg_bd {s g i : Int} (h : bnd s g i) : 3 ≤ regI s i ∧ regI s i ≤ 35 := by
  have h1 := chunks_bd h; have h2 := tables_bd h; unfold regI; omega
theorem log_bd {s g i : Int} (h : bnd s g i) : 7 ≤ logI s i ∧ logI s i ≤ 71 := by
  have h1 := reg_bd h; unfold logI; omega
theorem segs_bd {s g i : Int} (h : bnd s g i) : 8 ≤ s * g ∧ s * g ≤ 6400 := by
  unfold bnd at h
  have h1 : 8 * g ≤ s * g := Int.mul_le_mul_of_nonneg_right (by omega) (by omega)
  have h2 : s * g ≤ s * 32 := Int.mul_le_mul_of_nonneg_left (by omega) (by omega)
  omega
theorem sectors_bd {s g i : Int} (h : bnd s g i) : 79 ≤ sectorsI s g i ∧ sectorsI s g i ≤ 57671 := by
  have h1 := log_bd h; have h2 := segs_bd h; unfold sectorsI; omega

theorem upI_mono {n n' k k' : Int} (h0 : 0 ≤ n') (h1 : n' ≤ n) (hk : 1 ≤ k) (h2 : k ≤ k') : upI n' k' ≤ upI n k := by
  obtain ⟨a1, a2, a3, a4⟩ := upI_bd n k (by omega) hk
  obtain ⟨b1, b2, b3, b4⟩ := upI_bd n' k' h0 (by omega)
  generalize upI n k = u at *
  generalize upI n' k' = v at *
  rcases Int.lt_or_le u v with h | h
  · exfalso
    have e1 : u * k ≤ u * k' := Int.mul_le_mul_of_nonneg_left h2 a1
    have e2 : (u + 1) * k' ≤ v * k' := Int.mul_le_mul_of_nonneg_right (by omega) (by omega)
    rw [Int.add_mul, Int.one_mul] at e2
    omega
  · exact h
theorem most_mono {s g i s' g' i' : Int} (h : bnd s g i) (hs : s ≤ s') (hg : g ≤ g') (hi : i' ≤ i) (h' : bnd s' g' i') : mostI s g i ≤ mostI s' g' i' := by
  have hx : xI g' i' ≤ xI g i := by
    unfold xI
    have hc' := chunks_bd h'
    refine upI_mono (by omega) ?_ ?_ ?_
    · unfold chunksI; omega
    · unfold bnd at h; omega
    · omega
  have hb := xI_bd h
  have hb' := xI_bd h'
  unfold mostI
  split <;> split <;> omega
theorem room_mono {s g i s' g' i' : Int} (h : bnd s g i) (hs : s ≤ s') (hg : g ≤ g') (hi : i' ≤ i) (h' : bnd s' g' i') : roomI s g i ≤ roomI s' g' i' := by
  have h1 := most_mono h hs hg hi h'
  have h2 := mostI_bd h
  have h3 := mostI_bd h'
  unfold bnd at h h'
  unfold roomI
  have e1 : mostI s g i * (8 * g) ≤ mostI s g i * (8 * g') := Int.mul_le_mul_of_nonneg_left (by omega) (by omega)
  have e2 : mostI s g i * (8 * g') ≤ mostI s' g' i' * (8 * g') := Int.mul_le_mul_of_nonneg_right h1 (by omega)
  omega
end Go.Proofs.YtgakidimipipeaaGreat

namespace Go.Proofs.YtgakidimipipeaaGreat
open Go.RowKit Go.Sort
set_option linter.unusedVariables false
set_option maxRecDepth 100000

def amongB (n lo hi : Int) : Bool := decide (lo ≤ n ∧ n ≤ hi)
theorem amongB_yes {n lo hi : Int} (h : lo ≤ n ∧ n ≤ hi) : amongB n lo hi = true := decide_eq_true h
theorem amongB_no {n lo hi : Int} (h : ¬ (lo ≤ n ∧ n ≤ hi)) : amongB n lo hi = false := decide_eq_false h

theorem among_any (n lo hi : Int) (w : World) : Calls Tryz.prog 124 #[.int .i64 n, .int .i64 lo, .int .i64 hi] w fun e w' => e = .returned (.bool (amongB n lo hi)) ∧ w = w' := by
  by_cases h1 : lo ≤ n
  · by_cases h2 : n ≤ hi
    · have hr := amongB_yes (n := n) (lo := lo) (hi := hi) ⟨h1, h2⟩
      go_enter Tryz.func124, Tryz.ntmps124
      go_wp2
      go_ret
      exact ⟨by first | rfl | (rw [hr]; rfl), rfl⟩
    · have hr := amongB_no (n := n) (lo := lo) (hi := hi) (by omega)
      go_enter Tryz.func124, Tryz.ntmps124
      go_wp2
      go_ret
      exact ⟨by first | rfl | (rw [hr]; rfl), rfl⟩
  · have hr := amongB_no (n := n) (lo := lo) (hi := hi) (by omega)
    go_enter Tryz.func124, Tryz.ntmps124
    go_wp2
    go_ret
    exact ⟨by first | rfl | (rw [hr]; rfl), rfl⟩
theorem amongG_is (b : Bool) (n lo hi : Int) (w : World) (h : amongB n lo hi = b) : Calls Tryz.prog 124 #[.int .i64 n, .int .i64 lo, .int .i64 hi] w fun e w' => e = .returned (.bool b) ∧ w = w' := by
  rw [← h]; exact among_any n lo hi w

theorem parts_any (n k : Int) (w : World) (h0 : 0 ≤ n) (hn : n ≤ 1000) (h1 : 1 ≤ k) (hk : k ≤ 1000) : Calls Tryz.prog 121 #[.int .i64 n, .int .i64 k] w fun e w' => e = .returned (.int .i64 (upI n k)) ∧ w = w' := by
  have hz : ((k : Int) == 0) = false := by simp; omega
  go_enter Tryz.func121, Tryz.ntmps121
  go_wp2
  go_ret
  exact ⟨rfl, rfl⟩

theorem gcap_any (s g i : Int) (w : World) : Calls Tryz.prog 115 #[.agg #[.int .i64 s, .int .i64 g, .int .i64 i]] w fun e w' => e = .returned (.int .i64 (wrap64 (g * 8))) ∧ Below w.heap.size w w' := by
  have hb := below_box w (.cells #[.int .i64 s, .int .i64 g, .int .i64 i] 78)
  go_enter Tryz.func115, Tryz.ntmps115
  go_wp2
  go_ret
  exact ⟨rfl, hb⟩
theorem cap_wrap {s g i : Int} (h : bnd s g i) : wrap64 (g * 8) = 8 * g := by
  unfold bnd at h
  rw [IntWalk.wrap64_in _ (by omega)]
  omega
theorem gcap_is {s g i : Int} (w : World) (h : bnd s g i) : Calls Tryz.prog 115 #[.agg #[.int .i64 s, .int .i64 g, .int .i64 i]] w fun e w' => e = .returned (.int .i64 (8 * g)) ∧ Below w.heap.size w w' := by
  rw [← cap_wrap h]; exact gcap_any s g i w

theorem gchunks_is {s g i : Int} (w : World) (h : bnd s g i) : Calls Tryz.prog 122 #[.agg #[.int .i64 s, .int .i64 g, .int .i64 i]] w fun e w' => e = .returned (.int .i64 (chunksI i)) ∧ Below w.heap.size w w' := by
  have hb := below_box w (.cells #[.int .i64 s, .int .i64 g, .int .i64 i] 78)
  have he : upI i 10 = chunksI i := by unfold upI chunksI; congr 1; omega
  have HE := Lib.hid he
  clear he
  unfold bnd at h
  go_enter Tryz.func122, Tryz.ntmps122
  go_wp2_with (go_at_call 121; refine (parts_any _ _ _ (by omega) (by omega) (by decide) (by decide)).mono ?_; rintro e w' ⟨rfl, rfl⟩)
  go_ret
  exact ⟨by rw [HE.out]; rfl, hb⟩
def bndB (s g i : Int) : Bool := decide (bnd s g i)
theorem bounded_any (s g i : Int) (w : World) : Calls Tryz.prog 120 #[.agg #[.int .i64 s, .int .i64 g, .int .i64 i]] w fun e w' => e = .returned (.bool (bndB s g i)) ∧ Below w.heap.size w w' := by
  have hb := below_box w (.cells #[.int .i64 s, .int .i64 g, .int .i64 i] 78)
  by_cases h1 : 8 ≤ s ∧ s ≤ 200
  · by_cases h2 : 1 ≤ g ∧ g ≤ 32
    · by_cases h3 : 2 ≤ i ∧ i ≤ 200
      · have hr : bndB s g i = true := decide_eq_true (by unfold bnd; omega)
        go_enter Tryz.func120, Tryz.ntmps120
        go_wp2_with fail
        refine (amongG_is true s 8 200 _ (amongB_yes h1)).mono ?_
        rintro e w' ⟨rfl, rfl⟩
        go_wp2_with fail
        refine (amongG_is true g 1 32 _ (amongB_yes h2)).mono ?_
        rintro e w' ⟨rfl, rfl⟩
        go_wp2_with fail
        refine (amongG_is true i 2 200 _ (amongB_yes h3)).mono ?_
        rintro e w' ⟨rfl, rfl⟩
        go_wp2
        go_ret
        exact ⟨by rw [hr]; rfl, hb⟩
      · have hr : bndB s g i = false := decide_eq_false (by unfold bnd; omega)
        go_enter Tryz.func120, Tryz.ntmps120
        go_wp2_with fail
        refine (amongG_is true s 8 200 _ (amongB_yes h1)).mono ?_
        rintro e w' ⟨rfl, rfl⟩
        go_wp2_with fail
        refine (amongG_is true g 1 32 _ (amongB_yes h2)).mono ?_
        rintro e w' ⟨rfl, rfl⟩
        go_wp2_with fail
        refine (amongG_is false i 2 200 _ (amongB_no h3)).mono ?_
        rintro e w' ⟨rfl, rfl⟩
        go_wp2
        go_ret
        exact ⟨by rw [hr]; rfl, hb⟩
    · have hr : bndB s g i = false := decide_eq_false (by unfold bnd; omega)
      go_enter Tryz.func120, Tryz.ntmps120
      go_wp2_with fail
      refine (amongG_is true s 8 200 _ (amongB_yes h1)).mono ?_
      rintro e w' ⟨rfl, rfl⟩
      go_wp2_with fail
      refine (amongG_is false g 1 32 _ (amongB_no h2)).mono ?_
      rintro e w' ⟨rfl, rfl⟩
      go_wp2
      go_ret
      exact ⟨by rw [hr]; rfl, hb⟩
  · have hr : bndB s g i = false := decide_eq_false (by unfold bnd; omega)
    go_enter Tryz.func120, Tryz.ntmps120
    go_wp2_with fail
    refine (amongG_is false s 8 200 _ (amongB_no h1)).mono ?_
    rintro e w' ⟨rfl, rfl⟩
    go_wp2
    go_ret
    exact ⟨by rw [hr]; rfl, hb⟩
theorem bounded_is (b : Bool) {s g i : Int} (w : World) (h : bndB s g i = b) : Calls Tryz.prog 120 #[.agg #[.int .i64 s, .int .i64 g, .int .i64 i]] w fun e w' => e = .returned (.bool b) ∧ Below w.heap.size w w' := by
  rw [← h]; exact bounded_any s g i w
end Go.Proofs.YtgakidimipipeaaGreat

namespace Go.Proofs.YtgakidimipipeaaGreat
open Go.RowKit Go.Sort
set_option linter.unusedVariables false
set_option maxRecDepth 100000


/-- No error, or this one. -/
def errI (b : Bool) (k : Int) : Int := if b then 0 else k

theorem gmost_no {s g i : Int} (w : World) (h : ¬ bnd s g i) : Calls Tryz.prog 114 #[.agg #[.int .i64 s, .int .i64 g, .int .i64 i]] w fun e w' => e = .returned (.int .i64 0) ∧ Below w.heap.size w w' := by
  have hb := below_box w (.cells #[.int .i64 s, .int .i64 g, .int .i64 i] 78)
  have hr : bndB s g i = false := decide_eq_false h
  have HR := Lib.hid hr
  clear hr h
  go_enter Tryz.func114, Tryz.ntmps114
  go_wp2_with fail
  refine (bounded_is false _ HR.out).mono ?_
  rintro e w' ⟨rfl, b1⟩
  have b2 := below_next hb b1
  go_wp2
  go_ret
  exact ⟨rfl, b2⟩

theorem gmost_is {s g i : Int} (w : World) (h : bnd s g i) : Calls Tryz.prog 114 #[.agg #[.int .i64 s, .int .i64 g, .int .i64 i]] w fun e w' => e = .returned (.int .i64 (mostI s g i)) ∧ Below w.heap.size w w' := by
  have hb := below_box w (.cells #[.int .i64 s, .int .i64 g, .int .i64 i] 78)
  have hbox := box3_new w (.int .i64 s) (.int .i64 g) (.int .i64 i) 78
  have hr : bndB s g i = true := decide_eq_true h
  have HR := Lib.hid hr
  clear hr
  have H := Lib.hid h
  go_enter Tryz.func114, Tryz.ntmps114
  go_wp2_with fail
  refine (bounded_is true _ HR.out).mono ?_
  rintro e w1 ⟨rfl, b1⟩
  have b2 := below_next hb b1
  obtain ⟨hg, c0, c1, c2⟩ := hbox.below b1
  have k0 := cell_regrown c0
  have k1 := cell_regrown c1
  have k2 := cell_regrown c2
  clear b1 hbox hb
  have hc := chunks_bd h
  have hx : upI (chunksI i) (8 * g) = xI g i := rfl
  have HX := Lib.hid hx
  clear hx
  have hxb := xI_bd h
  unfold bnd at h
  go_wp2_with fail
  refine wp_region_quiet_below (by kernel_rfl) (by kernel_rfl) ?_
  repeat (go_big_quiet_step (first
    | (go_at_call 122; exact Calls.regrown_of (gchunks_is _ H.out))
    | (go_at_call 115; exact Calls.regrown_of (gcap_is _ H.out))
    | (go_at_call 121; exact regrown_same (parts_any _ _ _ (by omega) (by omega) (by omega) (by omega)))))
  refine wpQuiet_nil (regrown_name fun w2 b3 => ?_)
  rw [HX.out]
  obtain ⟨x, hxe⟩ : ∃ x, xI g i = x := ⟨_, rfl⟩
  rw [hxe] at hxb ⊢
  have d0 := (b3.cell (p := ⟨w.heap.size, 0, none⟩) hg).trans c0
  have b4 := below_next b2 b3
  clear c0 c1 c2 k0 k1 k2 HX b3 b2
  by_cases hn : s - 6 - 2 * x < 0
  · have hm : mostI s g i = 0 := by unfold mostI; rw [hxe, if_pos hn]
    have HM := Lib.hid hm
    clear hm hxe
    obtain ⟨y, hy, hy2, hy3⟩ : ∃ y : Int, (s - 6 - 2 * x).tdiv 2 = y ∧ y ≤ 0 ∧ -100 ≤ y := ⟨_, rfl, by
      have : (s - 6 - 2 * x).tdiv 2 = -((-(s - 6 - 2 * x)) / 2) := by
        rw [← Int.neg_neg (s - 6 - 2 * x), Int.neg_tdiv, Int.tdiv_eq_ediv_of_nonneg (by omega), Int.neg_neg]
      omega⟩
    have hy4 : wrap64 y ≤ 0 := by rw [IntWalk.wrap64_in y (by omega)]; exact hy2
    go_wp2
    all_goals (go_ret; exact ⟨ret_int (by first | (rw [HM.out]; omega) | rw [HM.out]), b4⟩)
  · have hm : mostI s g i = (s - 6 - 2 * x) / 2 := by unfold mostI; rw [hxe, if_neg hn]
    have HM := Lib.hid hm
    clear hm hxe
    go_wp2
    all_goals (go_ret; exact ⟨ret_int (by first | (rw [HM.out]; omega) | rw [HM.out]), b4⟩)

theorem groom_no {s g i : Int} (w : World) (h : ¬ bnd s g i) : Calls Tryz.prog 102 #[.agg #[.int .i64 s, .int .i64 g, .int .i64 i]] w fun e w' => e = .returned (.int .i64 0) ∧ Below w.heap.size w w' := by
  have hb := below_box w (.cells #[.int .i64 s, .int .i64 g, .int .i64 i] 78)
  obtain ⟨hg, c0, c1, c2⟩ := box3_new w (.int .i64 s) (.int .i64 g) (.int .i64 i) 78
  have H := Lib.hid h
  clear h
  go_enter Tryz.func102, Tryz.ntmps102
  go_wp2_with fail
  generalize w.alloc (.cells #[.int .i64 s, .int .i64 g, .int .i64 i] 78) = W at *
  have k0 := cell_regrown c0
  have k1 := cell_regrown c1
  have k2 := cell_regrown c2
  refine wp_region_quiet_below (by kernel_rfl) (by kernel_rfl) ?_
  repeat (go_big_quiet_step (first
    | (go_at_call 114; exact Calls.regrown_of (gmost_no _ H.out))
    | (go_at_call 115; exact Calls.regrown_of (gcap_any _ _ _ _))))
  refine wpQuiet_nil (regrown_name fun w2 b3 => ?_)
  go_wp2
  go_ret
  exact ⟨ret_int (by simp), below_next hb b3⟩

theorem groom_is {s g i : Int} (w : World) (h : bnd s g i) : Calls Tryz.prog 102 #[.agg #[.int .i64 s, .int .i64 g, .int .i64 i]] w fun e w' => e = .returned (.int .i64 (roomI s g i)) ∧ Below w.heap.size w w' := by
  have hb := below_box w (.cells #[.int .i64 s, .int .i64 g, .int .i64 i] 78)
  obtain ⟨hg, c0, c1, c2⟩ := box3_new w (.int .i64 s) (.int .i64 g) (.int .i64 i) 78
  have H := Lib.hid h
  have hm := mostI_bd h
  have hr : mostI s g i * (8 * g) = roomI s g i := rfl
  have hrb := room_bd h
  have hw : wrap64 (mostI s g i * (8 * g)) = roomI s g i := by rw [IntWalk.wrap64_in _ (by rw [hr]; omega), hr]
  have HW := Lib.hid hw
  clear h hr hrb hw
  go_enter Tryz.func102, Tryz.ntmps102
  go_wp2_with fail
  generalize w.alloc (.cells #[.int .i64 s, .int .i64 g, .int .i64 i] 78) = W at *
  have k0 := cell_regrown c0
  have k1 := cell_regrown c1
  have k2 := cell_regrown c2
  refine wp_region_quiet_below (by kernel_rfl) (by kernel_rfl) ?_
  repeat (go_big_quiet_step (first
    | (go_at_call 114; exact Calls.regrown_of (gmost_is _ H.out))
    | (go_at_call 115; exact Calls.regrown_of (gcap_is _ H.out))))
  refine wpQuiet_nil (regrown_name fun w2 b3 => ?_)
  go_wp2
  go_ret
  exact ⟨ret_int HW.out, below_next hb b3⟩

theorem gcheck_any (s g i : Int) (w : World) : Calls Tryz.prog 62 #[.agg #[.int .i64 s, .int .i64 g, .int .i64 i]] w fun e w' => e = .returned (.int .i64 (errI (mayB s g i) 1)) ∧ Below w.heap.size w w' := by
  have hb := below_box w (.cells #[.int .i64 s, .int .i64 g, .int .i64 i] 78)
  by_cases h : bnd s g i
  · have H := Lib.hid h
    have hrb := room_bd h
    have hm := mayB_room h
    clear h
    by_cases h8 : 8 ≤ roomI s g i
    · have HM : Hid (mayB s g i = true) := by show _ = _; rw [hm]; exact decide_eq_true h8
      clear hm
      go_enter Tryz.func62, Tryz.ntmps62
      go_wp2_with (go_at_call 102; refine (groom_is _ H.out).mono ?_; rintro e w' ⟨rfl, b1⟩)
      go_ret
      exact ⟨by rw [HM.out]; rfl, below_next hb b1⟩
    · have HM : Hid (mayB s g i = false) := by show _ = _; rw [hm]; exact decide_eq_false h8
      clear hm
      go_enter Tryz.func62, Tryz.ntmps62
      go_wp2_with (go_at_call 102; refine (groom_is _ H.out).mono ?_; rintro e w' ⟨rfl, b1⟩)
      go_ret
      exact ⟨by rw [HM.out]; rfl, below_next hb b1⟩
  · have HM : Hid (mayB s g i = false) := mayB_no h
    have H := Lib.hid h
    clear h
    go_enter Tryz.func62, Tryz.ntmps62
    go_wp2_with (go_at_call 102; refine (groom_no _ H.out).mono ?_; rintro e w' ⟨rfl, b1⟩)
    go_ret
    exact ⟨by rw [HM.out]; rfl, below_next hb b1⟩
theorem gcheck_yes {s g i : Int} (w : World) (h : mayB s g i = true) : Calls Tryz.prog 62 #[.agg #[.int .i64 s, .int .i64 g, .int .i64 i]] w fun e w' => e = .returned (.int .i64 0) ∧ Below w.heap.size w w' := by
  have := gcheck_any s g i w
  rwa [h] at this
theorem gcheck_no {s g i : Int} (w : World) (h : mayB s g i = false) : Calls Tryz.prog 62 #[.agg #[.int .i64 s, .int .i64 g, .int .i64 i]] w fun e w' => e = .returned (.int .i64 1) ∧ Below w.heap.size w w' := by
  have := gcheck_any s g i w
  rwa [h] at this
end Go.Proofs.YtgakidimipipeaaGreat

namespace Go.Proofs.YtgakidimipipeaaGreat
open Go.RowKit Go.Sort
set_option linter.unusedVariables false
set_option maxRecDepth 100000

/-- Where a region begins. -/
def regionI (s i a : Int) : Int := if 0 ≤ a ∧ a ≤ 1 then 1 + a * regI s i else -1
/-- Where a group begins, and its blocks. -/
def groupI (s g i a b : Int) : Int := logI s i + (a * g + b) * 9
def inI (s g a b : Int) : Prop := 0 ≤ a ∧ a < s ∧ 0 ≤ b ∧ b < g
theorem place_bd {s g i a b : Int} (h : bnd s g i) (k : inI s g a b) : 0 ≤ a * g ∧ a * g + b < s * g ∧ a * g + b ≤ 6400 ∧ a * g + g ≤ s * g := by
  have hs := segs_bd h
  unfold bnd at h
  obtain ⟨k1, k2, k3, k4⟩ := k
  have h1 : 0 ≤ a * g := Int.mul_nonneg k1 (by omega)
  have h2 : (a + 1) * g ≤ s * g := Int.mul_le_mul_of_nonneg_right (by omega) (by omega)
  rw [Int.add_mul, Int.one_mul] at h2
  omega
theorem group_bd {s g i a b : Int} (h : bnd s g i) (k : inI s g a b) : 7 ≤ groupI s g i a b ∧ groupI s g i a b + 9 ≤ sectorsI s g i := by
  have h1 := place_bd h k
  have h2 := log_bd h
  obtain ⟨k1, k2, k3, k4⟩ := k
  unfold groupI sectorsI
  omega
end Go.Proofs.YtgakidimipipeaaGreat

namespace Go.Proofs.YtgakidimipipeaaGreat
open Go.RowKit Go.Sort
set_option linter.unusedVariables false
set_option maxRecDepth 100000

/-! ### What is written -/
def superB (s g i : Nat) : List Nat := low s 4 ++ low g 4 ++ low i 4
def superL (s g i : Nat) : List Nat := sealL 1 (superB s g i)
theorem superB_length (s g i : Nat) : (superB s g i).length = 12 := by simp [superB, low_length]
theorem superB_bytes (s g i : Nat) : Bytes (superB s g i) := ((low_bytes s 4).append (low_bytes g 4)).append (low_bytes i 4)
theorem superL_length (s g i : Nat) : (superL s g i).length = 128 := sealL_length (by rw [superB_length]; decide)
theorem superL_bytes (s g i : Nat) : Bytes (superL s g i) := sealL_bytes (by decide) (superB_bytes s g i) (by rw [superB_length]; decide)

theorem laid_cells (l : List Nat) (p : Nat) (m : List Nat) : laid (cells l) p m = cells (l.take p ++ m ++ l.drop (p + m.length)) := by
  simp [laid, cells, List.map_take, List.map_drop]
def twelve : List Nat := [0, 0, 0, 0, 0, 0, 0, 0, 0, 0, 0, 0]
theorem make12 (w : World) : (Instr.makeSlice 84 (.int .i64 12) (.int .i64 12)).run Tryz.prog w = .ok (.slice (some ⟨w.heap.size, 0, none⟩) 12 12) (w.alloc (.cells (cells twelve) 5)) := by kernel_rfl
theorem three_puts (A B C : List Nat) (hA : A.length = 4) (hB : B.length = 4) (hC : C.length = 4) :
    laid (laid (laid (cells twelve) 0 A) 4 B) 8 C = cells (A ++ B ++ C) := by
  match A, hA, B, hB, C, hC with
  | [a0, a1, a2, a3], _, [b0, b1, b2, b3], _, [c0, c1, c2, c3], _ => rfl

theorem results_sector1 {fn : Func} {p : Tmp} (h : fn.results = #[.cell p 31]) (tmps : Array Value) (w : World) (g : Nat) (l : List Nat) (t : TypeId) (fr : Nat × Nat) (hp : tmps.getD p undef = .pointer (some ⟨g, 0, none⟩))
    (hg : w.heap[g]? = some (.cells (cells l) t fr)) (hl : l.length = 128) : (results fn tmps).run Tryz.prog w = .ok (.agg (cells l)) w :=
  results_cell_row h tmps w g t (cells l) fr _ hp hg row_sector rfl (by rw [size_sector, cells_size, hl])

/-- One more number into the twelve bytes. -/
theorem put_more (g : Nat) (cur : Array Value) (hs : cur.size = 12) (p : Int) (n : Int) (w : World) (hg : w.heap[g]? = some (.cells cur 5 (0, 0))) (hp : 0 ≤ p) (hp8 : p ≤ 8) (hn : 0 ≤ n) (hn2 : n ≤ 1000) :
    Calls Tryz.prog 82 #[.slice (some ⟨g, 0, none⟩) 12 12, .int .i64 p, .int .i64 4, .int .u64 n] w fun e w' => e = .returned (.int .i64 0) ∧ w'.heap[g]? = some (.cells (laid cur p.toNat (low n.toNat 4)) 5 (0, 0)) ∧ Only g w w' := by
  refine (put_yes_int g 0 12 12 cur _ p 4 n w hg (by omega) (by decide) hp (by decide) (by decide) (by omega) hn (by simp; omega)).mono ?_
  rintro e w' ⟨rfl, rfl⟩
  rw [Nat.zero_add]
  exact ⟨rfl, setRow_heap _ _ _ _ _ _ hg, (Only.refl g w).setRow _⟩
theorem laid_size12 (cur : Array Value) (hs : cur.size = 12) (p n : Nat) (hp : p ≤ 8) : (laid cur p (low n 4)).size = 12 := by
  rw [laid_size _ _ _ (by rw [low_length]; omega)]; exact hs

set_option maxHeartbeats 1600000 in
theorem gsuper_is {s g i : Int} (w : World) (h : bnd s g i) : Calls Tryz.prog 63 #[.agg #[.int .i64 s, .int .i64 g, .int .i64 i]] w fun e w' => e = .returned (.agg (cells (superL s.toNat g.toNat i.toNat))) ∧ Below w.heap.size w w' := by
  have hz := zero_sector
  have hmk := make12
  have hbd := h
  unfold bnd at hbd
  have hx0 := (box3_new w (.int .i64 s) (.int .i64 g) (.int .i64 i) 78).below ((below_box _ (.cells (cells noughts) 31)))
  have hn0 := heap_alloc2_new w (.cells #[.int .i64 s, .int .i64 g, .int .i64 i] 78) (.cells (cells noughts) 31)
  have hb0 := (below_box w (.cells #[.int .i64 s, .int .i64 g, .int .i64 i] 78)).alloc (by simp) (.cells (cells noughts) 31)
  obtain ⟨W, hW⟩ : ∃ W, (w.alloc (.cells #[.int .i64 s, .int .i64 g, .int .i64 i] 78)).alloc (.cells (cells noughts) 31) = W := ⟨_, rfl⟩
  have hWs : W.heap.size = w.heap.size + 2 := by rw [← hW]; simp
  rw [hW] at hx0 hb0 hn0
  have HWL : w.heap.size + 2 ≤ W.heap.size := by omega
  have hx1 := hx0.below (below_box W (.cells (cells twelve) 5))
  have hg1 := heap_alloc_new W (.cells (cells twelve) 5)
  have hb1 : Below W.heap.size W (W.alloc (.cells (cells twelve) 5)) := below_box _ _
  have Hg1 := Lib.hid hg1
  clear hWs hg1
  have hk1 : (s : Int) % 18446744073709551616 = s := by omega
  have hk2 : (g : Int) % 18446744073709551616 = g := by omega
  have hk3 : (i : Int) % 18446744073709551616 = i := by omega
  obtain ⟨hg, c0, c1, c2⟩ := hx1
  go_enter Tryz.func63, Tryz.ntmps63
  go_wp2_with fail
  refine (put_more W.heap.size _ rfl 0 s _ Hg1.out (by omega) (by omega) (by omega) (by omega)).mono ?_
  rintro e w1 ⟨rfl, hg2, o1⟩
  have Hg2 := Lib.hid hg2
  have b1 := hb1.trans (o1.below (B := W.heap.size) (Nat.le_refl _))
  obtain ⟨hgx, d0, d1, d2⟩ := Box3.kept ⟨hg, c0, c1, c2⟩ (o1.below (B := W.heap.size) (Nat.le_refl _)) (by omega)
  clear hg2 o1 c0 c1 c2 hg hb1 hx0
  go_wp2_with fail
  refine (put_more W.heap.size _ (laid_size12 _ rfl _ _ (by decide)) 4 g _ Hg2.out (by omega) (by omega) (by omega) (by omega)).mono ?_
  rintro e w2 ⟨rfl, hg3, o2⟩
  have Hg3 := Lib.hid hg3
  have b2 := b1.trans (o2.below (B := W.heap.size) (Nat.le_refl _))
  obtain ⟨hgy, c0, c1, c2⟩ := Box3.kept ⟨hgx, d0, d1, d2⟩ (o2.below (B := W.heap.size) (Nat.le_refl _)) (by omega)
  clear hg3 o2 d0 d1 d2 hgx b1 Hg1
  go_wp2_with fail
  refine (put_more W.heap.size _ (laid_size12 _ (laid_size12 _ rfl _ _ (by decide)) _ _ (by decide)) 8 i _ Hg3.out (by omega) (by omega) (by omega) (by omega)).mono ?_
  rintro e w3 ⟨rfl, hg4, o3⟩
  have b3 := b2.trans (o3.below (B := W.heap.size) (Nat.le_refl _))
  have e4 : laid (laid (laid (cells twelve) (Int.toNat 0) (low s.toNat 4)) (Int.toNat 4) (low g.toNat 4)) (Int.toNat 8) (low i.toNat 4) = cells (superB s.toNat g.toNat i.toNat) := three_puts _ _ _ (low_length _ _) (low_length _ _) (low_length _ _)
  rw [e4] at hg4
  have hlen := superB_length s.toNat g.toNat i.toNat
  have hbyt := superB_bytes s.toNat g.toNat i.toNat
  have hrd : Reads w3 (some ⟨W.heap.size, 0, none⟩) 12 (superB s.toNat g.toNat i.toNat) :=
    Reads.of_row hg4 hbyt hlen (fun j hj => by rw [Nat.zero_add]; simp [cells, List.getD, List.getElem?_eq_getElem (show j < (superB s.toNat g.toNat i.toNat).length by omega)])
  have hn3 : w3.heap[w.heap.size + 1]? = some (.cells (cells noughts) 31 (0, 0)) := by rw [b3.block _ (by omega)]; exact hn0
  have hbf : Below w.heap.size w w3 := hb0.trans (b3.mono (by omega))
  have HN := Lib.hid hn3
  clear e4 hg4 o3 b2 b3 hlen hbyt Hg2 Hg3 hn3 hn0 hb0 c0 c1 c2 hgy hk1 hk2 hk3 hmk hW hbd h
  obtain ⟨L, hL⟩ : ∃ L, superL s.toNat g.toNat i.toNat = L := ⟨_, rfl⟩
  have hSL : L.length = 128 := by rw [← hL]; exact superL_length _ _ _
  have hSE : sealL 1 (superB s.toNat g.toNat i.toNat) = L := hL
  have HL := Lib.hid hL
  clear hL
  generalize superB s.toNat g.toNat i.toNat = B at *
  have HSE := Lib.hid hSE
  have HSL := Lib.hid hSL
  clear hSE hSL
  go_wp2_with fail
  refine (make_ok 1 B _ _ _ _ hrd (by decide) (by decide) (by decide)).mono ?_
  rintro e w4 ⟨rfl, b4⟩
  rw [HSE.out]
  have hs4 := b4.size
  have hbf4 := below_next hbf b4
  have hn4 : (w4.alloc (.cells (cells L) 31)).heap[w.heap.size + 1]? = some (.cells (cells noughts) 31 (0, 0)) := by
    have hl : w.heap.size + 1 < w3.heap.size := (Array.getElem?_eq_some_iff.1 HN.out).1
    rw [Below.heap_alloc _ _ _ (by omega), b4.block _ hl]; exact HN.out
  have Hn4 := Lib.hid hn4
  have hbf5 := hbf4.alloc hbf4.size (.cells (cells L) 31)
  have HC5 := Lib.hid (box_cells (w := w4) HSL.out (heap_alloc_new w4 (.cells (cells L) 31)))
  clear hn4 hrd hbf b4 hbf4
  go_wp2_with (first | (refine wpList_store_sector rfl (.tmp 4) (.tmp 25) rfl w4.heap.size L rfl rfl HSL.out _ _ (heap_alloc_new w4 _) rfl ?_; rw [World.setRow_alloc_new]) | (refine wpList_load_sector rfl (.tmp 4) rfl w4.heap.size 0 L rfl HSL.out HC5.out ?_) | (refine wpList_store_sector rfl (.tmp 2) (.tmp 27) rfl (w.heap.size + 1) L rfl rfl HSL.out _ _ Hn4.out rfl ?_))
  exact bodyPost_ret (results_sector1 rfl _ _ (w.heap.size + 1) L _ _ rfl (setRow_heap _ _ _ _ _ _ Hn4.out) HSL.out) rfl ⟨by rw [HL.out], below_setRow hbf5 (by omega) _⟩

theorem gsuper_nat {s g i : Nat} (w : World) (h : bnd s g i) : Calls Tryz.prog 63 #[.agg #[.int .i64 s, .int .i64 g, .int .i64 i]] w fun e w' => e = .returned (.agg (cells (superL s g i))) ∧ Below w.heap.size w w' := by
  have := gsuper_is w h
  simpa only [Int.toNat_natCast] using this
end Go.Proofs.YtgakidimipipeaaGreat
