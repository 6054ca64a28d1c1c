/- May an entry be? (dirent's none, may.) What may be has room in a block. -/
import Derived.Test.YtgakidimipipeaaGreatGpgkgbpae
import Derived.Test.YtgakidimipipeaaGreatGood
namespace Go.Proofs.YtgakidimipipeaaGreat
open Go.RowKit Go.Sort
set_option linter.unusedVariables false
set_option linter.unusedSimpArgs false
set_option maxRecDepth 100000

theorem none_is (z : Int) (s : ByteArray) (w : World) : Calls Tryz.prog 76 #[.agg #[.int .i64 z, .string s]] w fun e w' => e = .returned (.bool (z == 0)) ∧ Below w.heap.size w w' := by
  go_enter Tryz.func76, Tryz.ntmps76
  go_wp2
  go_ret
  exact ⟨rfl, below_box _ _⟩
def mayD (x : Ent) : Bool := if x.1 = 0 then decide (x.2.data.toList = []) else decide (0 < x.1 ∧ x.1 ≤ 200) && decide (goodE x.2.data.toList = 0)
set_option maxHeartbeats 1600000 in
theorem may_is (z : Int) (s : ByteArray) (w : World) (hs : Fit s) : Calls Tryz.prog 32 #[.agg #[.int .i64 z, .string s]] w fun e w' => e = .returned (.bool (mayD (z, s))) ∧ Below w.heap.size w w' := by
  have htl := Lib.toList_data s
  have b1 := below_box w (.cells #[.int .i64 z, .string s] 47)
  have HB1 := Lib.hid b1
  have HN := Lib.hid (fun (W : World) => none_is z s W)
  have HG := Lib.hid (fun (W : World) => good_is s W hs)
  have n1 := heap_alloc_new w (.cells #[.int .i64 z, .string s] 47)
  have HN1 := Lib.hid n1
  have hsz1 : w.heap.size < (w.alloc (.cells #[.int .i64 z, .string s] 47)).heap.size := by simp
  obtain ⟨w1, hw1⟩ : ∃ x, w.alloc (.cells #[.int .i64 z, .string s] 47) = x := ⟨_, rfl⟩
  rw [hw1] at HB1 HN1 hsz1
  have d0 : w1.cell? ⟨w.heap.size, 0, none⟩ = some (.int .i64 z) := (cell_of_row HN1.out 0).trans rfl
  have d1 : w1.cell? ⟨w.heap.size, 1, none⟩ = some (.string s) := (cell_of_row HN1.out 1).trans rfl
  clear b1 n1
  by_cases hz : z = 0
  · have hzb : (z == 0) = true := by rw [hz]; rfl
    by_cases h0 : s.data.toList = []
    · have HM : Hid (mayD (z, s) = true) := Lib.hid (by unfold mayD; dsimp only; rw [if_pos hz]; exact decide_eq_true h0)
      have e1 : s.toList = [] := htl.trans h0
      have e2 : s.toList.isEmpty = true := by rw [e1]; rfl
      clear htl h0 hz
      go_enter Tryz.func32, Tryz.ntmps32
      go_wp2_with fail
      refine (HN.out w1).mono ?_
      rintro e w2 ⟨rfl, b2⟩
      have c1 : w2.cell? ⟨w.heap.size, 1, none⟩ = some (.string s) := (b2.cell (p := ⟨w.heap.size, 1, none⟩) hsz1).trans d1
      have HB2 := Lib.hid (below_next HB1.out b2)
      clear b2 d0 d1
      go_wp2
      go_ret
      exact ⟨by rw [HM.out]; rfl, HB2.out⟩
    · have HM : Hid (mayD (z, s) = false) := Lib.hid (by unfold mayD; dsimp only; rw [if_pos hz]; exact decide_eq_false h0)
      have e1 : ¬ s.toList = [] := by rw [htl]; exact h0
      have e2 : s.toList.isEmpty = false := by cases h : s.toList with | nil => exact absurd h e1 | cons => rfl
      clear htl h0 hz
      go_enter Tryz.func32, Tryz.ntmps32
      go_wp2_with fail
      refine (HN.out w1).mono ?_
      rintro e w2 ⟨rfl, b2⟩
      have c1 : w2.cell? ⟨w.heap.size, 1, none⟩ = some (.string s) := (b2.cell (p := ⟨w.heap.size, 1, none⟩) hsz1).trans d1
      have HB2 := Lib.hid (below_next HB1.out b2)
      clear b2 d0 d1
      go_wp2
      go_ret
      exact ⟨by rw [HM.out]; rfl, HB2.out⟩
  · have hzb : (z == 0) = false := by simpa using hz
    by_cases hp : 0 < z
    · by_cases hq : z ≤ 200
      · have hpd : decide (0 < z) = true := decide_eq_true hp
        have hqd : decide (z ≤ 200) = true := decide_eq_true hq
        obtain ⟨ge, hge⟩ : ∃ g, goodE s.data.toList = g := ⟨_, rfl⟩
        have HM : Hid (mayD (z, s) = (ge == 0)) := Lib.hid (by
          unfold mayD
          dsimp only
          rw [if_neg hz, decide_eq_true (And.intro hp hq), Bool.true_and, hge]
          rfl)
        rw [hge] at HG
        clear htl hge hz hp hq
        go_enter Tryz.func32, Tryz.ntmps32
        go_wp2_with fail
        refine (HN.out w1).mono ?_
        rintro e w2 ⟨rfl, b2⟩
        have c0 : w2.cell? ⟨w.heap.size, 0, none⟩ = some (.int .i64 z) := (b2.cell (p := ⟨w.heap.size, 0, none⟩) hsz1).trans d0
        have c1 : w2.cell? ⟨w.heap.size, 1, none⟩ = some (.string s) := (b2.cell (p := ⟨w.heap.size, 1, none⟩) hsz1).trans d1
        have HB2 := Lib.hid (below_next HB1.out b2)
        clear b2 d0 d1
        go_wp2_with fail
        refine (HG.out w2).mono ?_
        rintro e w3 ⟨rfl, b3⟩
        have HB3 := Lib.hid (below_next HB2.out b3)
        clear b3
        go_wp2
        go_ret
        exact ⟨by rw [HM.out]; rfl, HB3.out⟩
      · have hpd : decide (0 < z) = true := decide_eq_true hp
        have hqd : decide (z ≤ 200) = false := decide_eq_false hq
        have HM : Hid (mayD (z, s) = false) := Lib.hid (by
          unfold mayD
          dsimp only
          rw [if_neg hz, decide_eq_false (fun h => hq h.2), Bool.false_and])
        clear htl hz hp hq
        go_enter Tryz.func32, Tryz.ntmps32
        go_wp2_with fail
        refine (HN.out w1).mono ?_
        rintro e w2 ⟨rfl, b2⟩
        have c0 : w2.cell? ⟨w.heap.size, 0, none⟩ = some (.int .i64 z) := (b2.cell (p := ⟨w.heap.size, 0, none⟩) hsz1).trans d0
        have c1 : w2.cell? ⟨w.heap.size, 1, none⟩ = some (.string s) := (b2.cell (p := ⟨w.heap.size, 1, none⟩) hsz1).trans d1
        have HB2 := Lib.hid (below_next HB1.out b2)
        clear b2 d0 d1
        go_wp2
        go_ret
        exact ⟨by rw [HM.out]; rfl, HB2.out⟩
    · have hpd : decide (0 < z) = false := decide_eq_false hp
      have HM : Hid (mayD (z, s) = false) := Lib.hid (by
        unfold mayD
        dsimp only
        rw [if_neg hz, decide_eq_false (fun h => hp h.1), Bool.false_and])
      clear htl hz hp
      go_enter Tryz.func32, Tryz.ntmps32
      go_wp2_with fail
      refine (HN.out w1).mono ?_
      rintro e w2 ⟨rfl, b2⟩
      have c0 : w2.cell? ⟨w.heap.size, 0, none⟩ = some (.int .i64 z) := (b2.cell (p := ⟨w.heap.size, 0, none⟩) hsz1).trans d0
      have c1 : w2.cell? ⟨w.heap.size, 1, none⟩ = some (.string s) := (b2.cell (p := ⟨w.heap.size, 1, none⟩) hsz1).trans d1
      have HB2 := Lib.hid (below_next HB1.out b2)
      clear b2 d0 d1
      go_wp2
      go_ret
      exact ⟨by rw [HM.out]; rfl, HB2.out⟩
theorem mayD_facts {x : Ent} (h : mayD x = true) : 0 ≤ x.1 ∧ x.1 ≤ 200 ∧ x.2.data.toList.length ≤ 26 := by
  unfold mayD at h
  by_cases h0 : x.1 = 0
  · rw [if_pos h0] at h
    rw [of_decide_eq_true h, h0]
    exact ⟨by omega, by omega, by simp⟩
  · rw [if_neg h0, Bool.and_eq_true] at h
    obtain ⟨h1, h2⟩ := of_decide_eq_true h.1
    have h3 := of_decide_eq_true h.2
    refine ⟨by omega, h2, ?_⟩
    unfold goodE at h3
    split at h3
    · cases h3
    · split at h3
      · cases h3
      · split at h3
        · cases h3
        · omega
theorem room_ent {x : Ent} (h : mayD x = true) : roomU (entF x) := by
  obtain ⟨h1, h2, h3⟩ := mayD_facts h
  intro f hf
  unfold entF at hf
  rcases List.mem_cons.1 hf with rfl | hf
  · show u64of x.1 < 256 ^ 2
    unfold u64of
    omega
  · rcases List.mem_cons.1 hf with rfl | hf
    · show u64of (x.2.data.toList.length : Int) < 256 ^ 1
      unfold u64of
      omega
    · unfold nameF at hf
      obtain ⟨b, _, rfl⟩ := List.mem_map.1 hf
      show u64of (b.toNat : Int) < 256 ^ 1
      have := UInt8.toNat_lt b
      unfold u64of
      omega
theorem room_blk {E : List Ent} (h : E.all mayD = true) : roomU (blkF E) := by
  intro f hf
  unfold blkF at hf
  obtain ⟨x, hx, hf⟩ := List.mem_flatMap.1 hf
  exact room_ent (List.all_eq_true.1 h x hx) f hf
theorem blk_facts {E : List Ent} (hE : E.length = 4) (h : E.all mayD = true) : wrF (blkF E) = false ∧ wrB (blkF E) = lowsU (blkF E) ∧ (wrB (blkF E)).length = 128 ∧ Bytes (wrB (blkF E)) := by
  obtain ⟨h1, h2⟩ := wr_room (room_blk h)
  have hw := blkF_widths E fun x hx => by
    have := (mayD_facts (List.all_eq_true.1 h x hx)).2.2
    omega
  refine ⟨h1, h2, by rw [wrB_length, hw, hE], ?_⟩
  rw [h2]
  intro y hy
  unfold lowsU at hy
  obtain ⟨f, _, hf⟩ := List.mem_flatMap.1 hy
  exact low_bytes _ _ y hf
end Go.Proofs.YtgakidimipipeaaGreat
