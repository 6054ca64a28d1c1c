/- The law's 'same' on two equal summaries. -/
import Derived.Test.YtplkglepbedhoaaGoojceflf
namespace Go.Proofs.Ytplkglepbedhoaa
open Go.RowKit Go.Sort
set_option linter.unusedVariables false
set_option linter.unusedSimpArgs false
set_option maxRecDepth 100000

set_option maxHeartbeats 1600000 in
theorem sameSum_is {w : World} {D : SumD} {a b : Option Addr} {cap capb : Nat} (h : OkD D) (hl : D.list.length ≤ 1000) (hra : ReadsR w a 4 (D.list.map rowV)) (hrb : ReadsR w b 4 (D.list.map rowV)) :
    Calls Try.prog 22 #[.agg (sumX D (.slice a D.list.length cap)), .agg (sumX D (.slice b D.list.length capb))] w fun e w' => e = .returned (.bool true) ∧ Below w.heap.size w w' := by
  have hLL := h.2.2.2.2
  obtain ⟨L, hL⟩ : ∃ L, D.list = L := ⟨_, rfl⟩
  have hxa : sumX D (.slice a D.list.length cap) = #[.int .u64 D.seq, .int .u64 D.first, .bool D.commit, .int .i64 D.next, .int .u32 D.time, .slice a D.list.length cap] := rfl
  have hxb : sumX D (.slice b D.list.length capb) = #[.int .u64 D.seq, .int .u64 D.first, .bool D.commit, .int .i64 D.next, .int .u32 D.time, .slice b D.list.length capb] := rfl
  rw [hxa, hxb]
  rw [hL] at hLL hl hra hrb ⊢
  obtain ⟨n, hn⟩ : ∃ n, L.length = n := ⟨_, rfl⟩
  rw [hn] at hl ⊢
  have HN := Lib.hid hn
  have HL := Lib.hid hLL
  clear hxa hxb hL hn hLL h
  generalize D.seq = y0
  generalize D.first = y1
  generalize D.commit = y2
  generalize D.next = y3
  generalize D.time = y4
  have b1 := below_box w (.cells #[.int .u64 y0, .int .u64 y1, .bool y2, .int .i64 y3, .int .u32 y4, .slice a n cap] 39)
  have n1 := heap_alloc_new w (.cells #[.int .u64 y0, .int .u64 y1, .bool y2, .int .i64 y3, .int .u32 y4, .slice a n cap] 39)
  obtain ⟨w1, hw1⟩ : ∃ x, w.alloc (.cells #[.int .u64 y0, .int .u64 y1, .bool y2, .int .i64 y3, .int .u32 y4, .slice a n cap] 39) = x := ⟨_, rfl⟩
  have hs1 : w1.heap.size = w.heap.size + 1 := by rw [← hw1]; simp
  rw [hw1] at b1 n1
  have b2 := below_box w1 (.cells #[.int .u64 y0, .int .u64 y1, .bool y2, .int .i64 y3, .int .u32 y4, .slice b n capb] 39)
  have n2 := heap_alloc_new w1 (.cells #[.int .u64 y0, .int .u64 y1, .bool y2, .int .i64 y3, .int .u32 y4, .slice b n capb] 39)
  obtain ⟨w2, hw2⟩ : ∃ x, w1.alloc (.cells #[.int .u64 y0, .int .u64 y1, .bool y2, .int .i64 y3, .int .u32 y4, .slice b n capb] 39) = x := ⟨_, rfl⟩
  have hs2 : w2.heap.size = w.heap.size + 2 := by rw [← hw2]; simp [hs1]
  rw [hw2] at b2 n2
  rw [hs1] at n2
  have n12 := (b2.block w.heap.size (by omega)).trans n1
  have HRA := Lib.hid ((hra.below b1).below b2)
  have HRB := Lib.hid ((hrb.below b1).below b2)
  have HB := Lib.hid (below_next b1 b2)
  have N1 := Lib.hid n12
  have N2 := Lib.hid n2
  have c0 : w2.cell? ⟨w.heap.size, 0, none⟩ = some (.int .u64 y0) := cell_of_row n12 0
  have c1 : w2.cell? ⟨w.heap.size, 1, none⟩ = some (.int .u64 y1) := cell_of_row n12 1
  have c2 : w2.cell? ⟨w.heap.size, 2, none⟩ = some (.bool y2) := cell_of_row n12 2
  have c3 : w2.cell? ⟨w.heap.size, 3, none⟩ = some (.int .i64 y3) := cell_of_row n12 3
  have c4 : w2.cell? ⟨w.heap.size, 4, none⟩ = some (.int .u32 y4) := cell_of_row n12 4
  have c5 : w2.cell? ⟨w.heap.size, 5, none⟩ = some (.slice a n cap) := cell_of_row n12 5
  have d0 : w2.cell? ⟨w.heap.size + 1, 0, none⟩ = some (.int .u64 y0) := cell_of_row n2 0
  have d1 : w2.cell? ⟨w.heap.size + 1, 1, none⟩ = some (.int .u64 y1) := cell_of_row n2 1
  have d2 : w2.cell? ⟨w.heap.size + 1, 2, none⟩ = some (.bool y2) := cell_of_row n2 2
  have d3 : w2.cell? ⟨w.heap.size + 1, 3, none⟩ = some (.int .i64 y3) := cell_of_row n2 3
  have d4 : w2.cell? ⟨w.heap.size + 1, 4, none⟩ = some (.int .u32 y4) := cell_of_row n2 4
  have d5 : w2.cell? ⟨w.heap.size + 1, 5, none⟩ = some (.slice b n capb) := cell_of_row n2 5
  clear b1 n1 b2 n2 n12 hra hrb
  go_enter Try.func22, Try.ntmps22
  go_wp2_with fail
  clear c0 c1 c2 c3 c4 c5 d0 d1 d2 d3 d4 d5
  go_loopw [51] (fun i wr => ∃ k : Nat, k ≤ n ∧ i = .int .i64 k ∧ Hid (Below w2.heap.size w2 wr)) (fun i _ => n - (intOf i).toNat)
  case atStart => exact ⟨0, Nat.zero_le _, rfl, Lib.hid (Below.refl _ _)⟩
  case round =>
    obtain ⟨k, hk, rfl, HBL⟩ := hrel
    by_cases hlt : k < n
    · obtain ⟨x, hx⟩ : ∃ x, L[k]? = some x := ⟨_, List.getElem?_eq_getElem (by rw [HN.out]; exact hlt)⟩
      obtain ⟨z0, z1, z2, z3, rfl, _⟩ := HL.out x (List.mem_of_getElem? hx)
      have hxr : (L.map rowV)[k]? = some (rowV (fldEntry z0 z1 z2 z3)) := by rw [List.getElem?_map, hx]; rfl
      obtain ⟨g, off, rfl, hb, hc⟩ := (HRA.out.below HBL.out).row hxr
      obtain ⟨g', off', rfl, hb', hc'⟩ := (HRB.out.below HBL.out).row hxr
      have hcell : ∀ (i : Nat) (u : Value), (rowV (fldEntry z0 z1 z2 z3))[i]? = some u → wr.cell? ⟨g, off + k * 4 + i, none⟩ = some u := fun i u hi => by
        have h1 := hc i u hi
        rwa [← Nat.add_assoc] at h1
      have hcell' : ∀ (i : Nat) (u : Value), (rowV (fldEntry z0 z1 z2 z3))[i]? = some u → wr.cell? ⟨g', off' + k * 4 + i, none⟩ = some u := fun i u hi => by
        have h1 := hc' i u hi
        rwa [← Nat.add_assoc] at h1
      have c_0 : wr.cell? ⟨g, off + k * 4, none⟩ = some (.int .i64 z0) := hcell 0 _ rfl
      have c_1 : wr.cell? ⟨g, off + k * 4 + 1, none⟩ = some (.int .u32 z1) := hcell 1 _ rfl
      have c_2 : wr.cell? ⟨g, off + k * 4 + 2, none⟩ = some (.int .u32 z2) := hcell 2 _ rfl
      have c_3 : wr.cell? ⟨g, off + k * 4 + 3, none⟩ = some (.int .i64 z3) := hcell 3 _ rfl
      have d_0 : wr.cell? ⟨g', off' + k * 4, none⟩ = some (.int .i64 z0) := hcell' 0 _ rfl
      have d_1 : wr.cell? ⟨g', off' + k * 4 + 1, none⟩ = some (.int .u32 z1) := hcell' 1 _ rfl
      have d_2 : wr.cell? ⟨g', off' + k * 4 + 2, none⟩ = some (.int .u32 z2) := hcell' 2 _ rfl
      have d_3 : wr.cell? ⟨g', off' + k * 4 + 3, none⟩ = some (.int .i64 z3) := hcell' 3 _ rfl
      have c5 : wr.cell? ⟨w.heap.size, 5, none⟩ = some (.slice (some ⟨g, off, none⟩) n cap) := (HBL.out.cell (p := ⟨w.heap.size, 5, none⟩) (by show w.heap.size < _; omega)).trans (cell_of_row N1.out 5)
      have d5 : wr.cell? ⟨w.heap.size + 1, 5, none⟩ = some (.slice (some ⟨g', off', none⟩) n capb) := (HBL.out.cell (p := ⟨w.heap.size + 1, 5, none⟩) (by show w.heap.size + 1 < _; omega)).trans (cell_of_row N2.out 5)
      have hx0 : (0 : Int) ≤ (k : Int) := by omega
      have hx1 : (k : Int) < (n : Int) := by omega
      clear hc hc' hcell hcell' hx hxr hb hb'
      go_wp2_with fail
      go_quiet (fail)
      rename_i nq
      go_wp2
      go_roundw
      case rel => exact ⟨k + 1, by omega, by go_num, Lib.hid (HBL.out.trans ((below_drewN _ _).mono HBL.out.size))⟩
      case measure => simp [intOf]; omega
    · obtain rfl : k = n := by omega
      go_wp2
      go_ret
      exact ⟨rfl, below_next HB.out HBL.out⟩
end Go.Proofs.Ytplkglepbedhoaa
