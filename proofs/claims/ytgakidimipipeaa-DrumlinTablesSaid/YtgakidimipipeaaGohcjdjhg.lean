/- A sealed sector of Uses read (codec.read); codec's own WriteUses and ReadUses. -/
import Derived.Test.YtgakidimipipeaaGckolcoic
import Derived.Deep.RegionHeld3
namespace Go.Proofs.Ytgakidimipipeaa
open Go.RowKit Go.Sort
set_option linter.unusedVariables false
set_option linter.unusedSimpArgs false
set_option maxRecDepth 100000

noncomputable def readUse (s : List Nat) : List (List FldD) × Int := if (writeUse (itemsR zeroUse (bO s))).2 = 0 ∧ (writeUse (itemsR zeroUse (bO s))).1 = s then (itemsR zeroUse (bO s), 0) else ([], 21)
set_option maxHeartbeats 1600000 in
theorem readUse_is {w : World} (s : List Nat) (hs : s.length = 128) (hb : Bytes s) (vu vr : Value) (hu : IsUpUse w vu) (hv : IsRestUse w vr) :
    Calls Try.prog 73 #[.int .u8 5, .agg (cells s), vu, vr] w (ReadsPost 123 3 w (readUse s)) := by
  have hz := zero_sector
  have b1 := below_box w (.cells (cells s) 41)
  have n1 := heap_alloc_new w (.cells (cells s) 41)
  have hu1 := hu.below b1
  have hv1 := hv.below b1
  obtain ⟨w1, hw1⟩ : ∃ w1, w.alloc (.cells (cells s) 41) = w1 := ⟨_, rfl⟩
  have hs1 : w1.heap.size = w.heap.size + 1 := by rw [← hw1]; simp
  rw [hw1] at b1 n1 hu1 hv1
  have HU := Lib.hid hu1
  have HV := Lib.hid hv1
  have HB := Lib.hid b1
  have HC := Lib.hid (box_cells hs n1)
  have HITS := Lib.hid (itemsUse_is (bO_bytes hb))
  have hblen := bO_length hs
  obtain ⟨gr, hvr, _⟩ := id hv
  subst hvr
  clear b1 hu hv hu1 hv1
  go_enter Try.func73, Try.ntmps73
  go_wp2_with (refine wpList_load_sector rfl _ rfl w.heap.size 0 s (by go_simp) hs HC.out ?_)
  refine (open_any2 s hs hb w1).mono ?_
  rintro e w3 ⟨b3, h3⟩
  have n1'' := (b3.block w.heap.size (by omega)).trans n1
  have HB3 : Hid (Below w.heap.size w w3) := HB.out.trans (b3.mono HB.out.size)
  have hs3 : w.heap.size + 1 ≤ w3.heap.size := by have := b3.size; omega
  have HU3 := Lib.hid (HU.out.below b3)
  have HV3 := Lib.hid (HV.out.below b3)
  obtain ⟨k, a3, cap3, er, he, hr3, hc3, hm3⟩ : ∃ (k : Nat) (a3 : Option Addr) (cap3 : Nat) (er : Int), e = .returned (.tuple #[.int .u8 k, .slice a3 (bO s).length cap3, .int .i64 er]) ∧ Reads w3 a3 (bO s).length (bO s) ∧ (bO s).length ≤ cap3 ∧ cap3 ≤ maxLen := by
    rcases h3 with ⟨ho, a, cap, he, hr, hc, hm⟩ | ⟨ho, he⟩
    · have e : bO s = bodyL s := if_pos ho
      rw [e]
      exact ⟨_, a, cap, _, he, hr, hc, hm⟩
    · have e : bO s = [] := if_neg (by rw [ho]; decide)
      rw [e]
      exact ⟨0, none, 0, 21, he, ⟨rfl, by intro x hx; simp at hx, .inl rfl⟩, Nat.le_refl _, by unfold maxLen; omega⟩
  subst he
  obtain ⟨g', hge, hgn⟩ := HV3.out
  obtain rfl : gr = g' := by simpa using hge
  have HPR := Lib.hid (preadUse_is _ hgn hr3 hc3 hm3 (by omega))
  clear h3 b3 n1 HB HC hw1 hs1 HU HV hge hgn hr3
  go_wp2_with fail
  refine HPR.out.mono ?_
  rintro e w4 ⟨b4, v4, rfl, ho4⟩
  have HX : Hid (readUse s = if (writeUse (itemsR zeroUse (bO s))).2 = 0 ∧ (writeUse (itemsR zeroUse (bO s))).1 = s then (itemsR zeroUse (bO s), 0) else ([], 21)) := rfl
  obtain ⟨x, hx⟩ : ∃ x, itemsR zeroUse (bO s) = x := ⟨_, rfl⟩
  rw [hx] at HX ho4 HITS
  obtain ⟨a4, c4, rfl, hr4, _⟩ := owned_list ho4
  have n14 := (b4.block w.heap.size (by omega)).trans n1''
  have HB4 : Hid (Below w.heap.size w w4) := HB3.out.trans (b4.mono HB3.out.size)
  have hs4 : w.heap.size + 1 ≤ w4.heap.size := Nat.le_trans hs3 b4.size
  have HO4 := Lib.hid (ho4.less (show w.heap.size ≤ w3.heap.size by omega))
  have HW := Lib.hid (writeUse_is x HITS.out a4 c4 hr4 vu _ (HU3.out.below b4) (HV3.out.below b4))
  have hmk := writeUse_length HITS.out
  obtain ⟨mk, hmke⟩ : ∃ mk, (writeUse x).1 = mk := ⟨_, rfl⟩
  obtain ⟨er2, here⟩ : ∃ er2, (writeUse x).2 = er2 := ⟨_, rfl⟩
  rw [hmke, here] at HX HW
  rw [hmke] at hmk
  obtain ⟨nx, hnx⟩ : ∃ nx, x.length = nx := ⟨_, rfl⟩
  have HNX := Lib.hid hnx
  rw [hnx] at HW HO4 ⊢
  clear n1'' HB3 hs3 b4 ho4 hr4 hx hc3 hm3 HPR HU3 HV3 hmke here hnx
  go_wp2_with fail
  refine HW.out.mono ?_
  rintro e w6 ⟨rfl, b6⟩
  have n16 := (b6.block w.heap.size (by omega)).trans n14
  have HB6 : Hid (Below w.heap.size w w6) := HB4.out.trans (b6.mono HB4.out.size)
  have hs6 : w.heap.size + 1 ≤ w6.heap.size := by have := b6.size; omega
  have ho6 := HO4.out.below b6
  have nn := heap_alloc_new w6 (.cells (cells noughts) 41)
  have b7 := below_box w6 (.cells (cells mk) 41)
  have n7 := heap_alloc_new w6 (.cells (cells mk) 41)
  have e7 := World.setRow_alloc_new w6 (cells noughts) (cells mk) 41
  have HO7 := Lib.hid (ho6.below b7)
  obtain ⟨w7, hw7⟩ : ∃ w7, w6.alloc (.cells (cells mk) 41) = w7 := ⟨_, rfl⟩
  rw [hw7] at b7 n7 e7 HO7
  have n17 := (b7.block w.heap.size (by omega)).trans n16
  have HB7 : Hid (Below w.heap.size w w7) := HB6.out.trans (b7.mono HB6.out.size)
  obtain ⟨m2, hm2⟩ : ∃ m2, w6.heap.size = m2 := ⟨_, rfl⟩
  rw [hm2] at n7 e7 nn hs6
  have HC7 := Lib.hid (block_cells hmk n7)
  have HCs := Lib.hid (block_cells hs n17)
  have hneq := run_neq_sector mk s hmk hs
  clear n16 HB6 b6 b7 hw7 n14 HB4 hs4 HO4 ho6 HW n7 n17
  by_cases her : er2 = 0
  · subst her
    by_cases hms : mk = s
    · have hfin : readUse s = (x, 0) := HX.out.trans (if_pos ⟨rfl, hms⟩)
      have HF := Lib.hid hfin
      rw [decide_eq_true hms, Bool.not_true] at hneq
      clear hfin hms
      go_wp2_with (first
        | (refine wpList_store_sector rfl _ _ rfl m2 mk rfl rfl hmk _ _ nn rfl ?_; rw [e7])
        | refine wpList_load_sector_want rfl _ rfl m2 0 mk rfl hmk HC7.out ?_
        | refine wpList_load_sector_want rfl _ rfl w.heap.size 0 s rfl hs HCs.out ?_)
      go_ret2
      unfold ReadsPost
      rw [HF.out]
      refine ⟨HB7.out, a4, c4, ?_, ?_⟩
      · show _ = Ending.returned (.tuple #[.slice a4 x.length c4, .int .i64 0])
        rw [HNX.out]; rfl
      · show OwnsR' _ _ _ _ (.slice a4 x.length c4) (x.map rowV)
        rw [HNX.out]; exact HO7.out
    · have hfin : readUse s = ([], 21) := HX.out.trans (if_neg (fun h => hms h.2))
      have HF := Lib.hid hfin
      rw [decide_eq_false hms, Bool.not_false] at hneq
      clear hfin hms
      go_wp2_with (first
        | (refine wpList_store_sector rfl _ _ rfl m2 mk rfl rfl hmk _ _ nn rfl ?_; rw [e7])
        | refine wpList_load_sector_want rfl _ rfl m2 0 mk rfl hmk HC7.out ?_
        | refine wpList_load_sector_want rfl _ rfl w.heap.size 0 s rfl hs HCs.out ?_)
      go_ret2
      unfold ReadsPost
      rw [HF.out]
      exact ⟨HB7.out, none, 0, rfl, OwnsR'.nil _ _ _ _⟩
  · have hne0 : (er2 == 0) = false := by simpa using her
    have hfin : readUse s = ([], 21) := HX.out.trans (if_neg (fun h => her h.1))
    have HF := Lib.hid hfin
    clear hfin
    go_wp2_with (first
      | (refine wpList_store_sector rfl _ _ rfl m2 mk rfl rfl hmk _ _ nn rfl ?_; rw [e7])
      | refine wpList_load_sector_want rfl _ rfl m2 0 mk rfl hmk HC7.out ?_
      | refine wpList_load_sector_want rfl _ rfl w.heap.size 0 s rfl hs HCs.out ?_)
    go_ret2
    unfold ReadsPost
    rw [HF.out]
    exact ⟨HB7.out, none, 0, rfl, OwnsR'.nil _ _ _ _⟩
set_option maxHeartbeats 1600000 in
theorem writeUses_is {w : World} (L : List (List FldD)) (hL : ∀ x ∈ L, IsFUse x) (a : Option Addr) (cap : Nat) (hr : ReadsR w a 3 (L.map rowV)) :
    Calls Try.prog 28 #[.slice a L.length cap] w fun e w' => e = .returned (.tuple #[.agg (cells (writeUse L).1), .int .i64 (writeUse L).2]) ∧ Below w.heap.size w w' := by
  have hz := zero_sector
  have b1 := below_box w (.cells (cells noughts) 41)
  have n1 := heap_alloc_new w (.cells (cells noughts) 41)
  have hr1 := hr.below b1
  obtain ⟨w1, hw1⟩ : ∃ w1, w.alloc (.cells (cells noughts) 41) = w1 := ⟨_, rfl⟩
  have hs1 : w1.heap.size = w.heap.size + 1 := by rw [← hw1]; simp
  rw [hw1] at b1 n1 hr1
  have HB := Lib.hid b1
  have HR1 := Lib.hid hr1
  have HL := Lib.hid hL
  have hlen := writeUse_length hL
  obtain ⟨n, hn⟩ : ∃ n, L.length = n := ⟨_, rfl⟩
  have HN := Lib.hid hn
  rw [hn]
  clear hr b1 hr1 hL hn
  go_enter Try.func28, Try.ntmps28
  go_wp2_with fail
  refine (uptoUse_is w1).mono ?_
  rintro e w2 ⟨vu, rfl, hu2, b2⟩
  have HU2 := Lib.hid hu2
  have HB2 := Lib.hid b2
  obtain ⟨u1, u2, rfl, _⟩ := hu2
  clear b2
  go_wp2_with fail
  refine (rest0Use_is w2).mono ?_
  rintro e w3 ⟨vr, rfl, hv3, b3⟩
  have HW := writeUse_is L HL.out a cap ((HR1.out.below HB2.out).below b3) _ _ (HU2.out.below b3) hv3
  rw [HN.out] at HW
  have HW' := Lib.hid HW
  obtain ⟨u3, rfl, _⟩ := hv3
  have n3 := (b3.block w.heap.size (by have := HB2.out.size; omega)).trans ((HB2.out.block w.heap.size (by omega)).trans n1)
  have HB3 : Hid (Below w.heap.size w w3) := Lib.hid (below_next (below_next HB.out HB2.out) b3)
  have hs3 : w.heap.size + 1 ≤ w3.heap.size := by have := b3.size; have := HB2.out.size; omega
  clear b3 HW n1 hw1 hs1 HB HB2 HU2 HR1
  go_wp2_with fail
  refine HW'.out.mono ?_
  rintro e w5 ⟨rfl, b5⟩
  obtain ⟨s, hse⟩ : ∃ s, (writeUse L).1 = s := ⟨_, rfl⟩
  obtain ⟨er, here⟩ : ∃ er, (writeUse L).2 = er := ⟨_, rfl⟩
  have HS := Lib.hid (And.intro hse here)
  rw [hse, here]
  rw [hse] at hlen
  have n5 := (b5.block w.heap.size (by omega)).trans n3
  have hd := setRow_heap w5 w.heap.size _ (cells s) _ _ n5
  have hb := below_setRow (g := w.heap.size) (HB3.out.trans (b5.mono HB3.out.size)) (Nat.le_refl _) (cells s)
  clear b5 n3 HB3 hse here HW'
  go_wp2_with (refine wpList_store_sector rfl _ _ rfl w.heap.size s rfl rfl hlen _ _ n5 rfl ?_)
  refine bodyPost_ret (results_sector rfl _ _ w.heap.size s _ _ rfl hd hlen) rfl ?_
  exact ⟨by rw [HS.out.1, HS.out.2]; rfl, hb⟩
end Go.Proofs.Ytgakidimipipeaa
