/- The laws' own turn of a sealed sector: whatever it makes, it is a sector of bytes. -/
import Derived.Test.YtplkglepbedhoaaGhibkmnbc
import Derived.Test.YtplkglepbedhoaaGdglklmlk
import Derived.Test.YtplkglepbedhoaaGddmfnfkp
import Derived.Test.YtplkglepbedhoaaGkkjjpanm
import Derived.Test.YtplkglepbedhoaaGohncnbgh
namespace Go.Proofs.Ytplkglepbedhoaa
open Go.RowKit Go.Sort
set_option linter.unusedVariables false
set_option linter.unusedSimpArgs false
set_option maxRecDepth 100000

theorem results_turn {fn : Func} {p : Tmp} (h : fn.results = #[.cell p 42]) (tmps : Array Value) (w : World) (g : Nat) (l : List Nat) (t : TypeId) (fr : Nat × Nat) (hp : tmps.getD p undef = .pointer (some ⟨g, 0, none⟩))
    (hg : w.heap[g]? = some (.cells (cells l) t fr)) (hl : l.length = 128) : (results fn tmps).run Try.prog w = .ok (.agg (cells l)) w :=
  results_cell_row h tmps w g t (cells l) fr _ hp hg row_sector rfl (by rw [size_sector, cells_size, hl])

set_option maxHeartbeats 1600000 in
theorem turn_any (s : List Nat) (hs : s.length = 128) (hbs : Bytes s) (a : Option Addr) (len cap : Nat) (b : List Nat) (w : World) (hr : Reads w a len b) (hl : len ≤ maxLen) :
    Calls Try.prog 24 #[.agg (cells s), .slice a len cap] w fun e w' => ∃ s', s'.length = 128 ∧ Bytes s' ∧ e = .returned (.agg (cells s')) ∧ Below w.heap.size w w' := by
  have hz := zero_sector
  have hm9 : len ≤ 9223372036854775807 := by unfold maxLen at hl; omega
  obtain rfl : len = b.length := hr.1.symm
  have b1 := below_box w (.cells (cells s) 42)
  have n1 := heap_alloc_new w (.cells (cells s) 42)
  obtain ⟨w1, hw1⟩ : ∃ w1, w.alloc (.cells (cells s) 42) = w1 := ⟨_, rfl⟩
  have hs1 : w1.heap.size = w.heap.size + 1 := by rw [← hw1]; simp
  rw [hw1] at b1 n1
  have b2 := below_box w1 (.cells (cells noughts) 42)
  have n2 := heap_alloc_new w1 (.cells (cells noughts) 42)
  have n1' := (b2.block w.heap.size (by omega)).trans n1
  have HB := Lib.hid (below_next b1 b2)
  rw [hs1] at n2
  obtain ⟨w2, hw2⟩ : ∃ w2, w1.alloc (.cells (cells noughts) 42) = w2 := ⟨_, rfl⟩
  rw [hw2] at n2 n1' HB
  have hs2 : w2.heap.size = w.heap.size + 2 := by rw [← hw2]; simp [hs1]
  clear b1 n1 b2
  go_enter Try.func24, Try.ntmps24
  go_wp2_with fail
  go_loopw [5] (fun i wr => ∃ (k : Nat) (t : List Nat), k ≤ 9 ∧ i = .int .i64 k ∧ t.length = 128 ∧ Bytes t ∧ Hid (Below w.heap.size w wr) ∧ Hid (w.heap.size + 2 ≤ wr.heap.size) ∧ Hid (wr.heap[w.heap.size]? = some (.cells (cells t) 42 (0, 0))) ∧ Hid (wr.heap[w.heap.size + 1]? = some (.cells (cells noughts) 42 (0, 0)))) (fun i _ => 20 - (intOf i).toNat)
  case atStart => exact ⟨0, s, by decide, rfl, hs, hbs, HB.out, hs2 ▸ Nat.le_refl _, n1', n2⟩
  case round =>
    obtain ⟨k, t, hk, rfl, ht, hbt, hb, hsz, hrow, hrow2⟩ := hrel
    clear hw1 hw2 n1' n2 HB hs1 hs2
    by_cases hlt : k + 1 < b.length ∧ k < 8
    · obtain ⟨hl1, hk8⟩ := hlt
      have hlI : (k : Int) + 1 < (b.length : Int) := by omega
      have hkI : (k : Int) < 8 := by omega
      have hlI0 : (k : Int) < (b.length : Int) := by omega
      obtain ⟨g, off, rfl, hc⟩ : ∃ g off, a = some ⟨g, off, none⟩ ∧ ∀ i, i < b.length → wr.cell? ⟨g, off + i, none⟩ = some (.int .u8 ((b.getD i 0 : Nat) : Int)) := by
        obtain ⟨_, _, hl3⟩ := hr.below hb.out
        rcases hl3 with rfl | ⟨g, off, e, _, hc⟩
        · simp at hl1
        · exact ⟨g, off, e, hc⟩
      have hc0 := hc k (by omega)
      have hc1 := hc (k + 1) hl1
      have hx : b.getD k 0 < 256 := by
        have := hr.2.1 (b.getD k 0)
        rw [List.getD_eq_getElem?_getD, List.getElem?_eq_getElem (by omega)] at this ⊢
        exact this (List.getElem_mem _)
      have hy : b.getD (k + 1) 0 < 256 := by
        have := hr.2.1 (b.getD (k + 1) 0)
        rw [List.getD_eq_getElem?_getD, List.getElem?_eq_getElem (by omega)] at this ⊢
        exact this (List.getElem_mem _)
      obtain ⟨x, hxe⟩ : ∃ x, b.getD k 0 = x := ⟨_, rfl⟩
      obtain ⟨y, hye⟩ : ∃ y, b.getD (k + 1) 0 = y := ⟨_, rfl⟩
      rw [hxe] at hc0 hx
      rw [hye] at hc1 hy
      obtain ⟨m, hm⟩ : ∃ m, x % 122 = m := ⟨_, rfl⟩
      have hm2 : m < 122 := by omega
      have hmod : Int.tmod (x : Int) 122 = (m : Int) := by rw [← hm]; rfl
      have hmI : (0 : Int) ≤ 2 + (m : Int) ∧ 2 + (m : Int) < 128 := by omega
      have hfr : wr.frozen? ⟨w.heap.size, 2 + m, none⟩ = false := frozen_of_row _ _ _ _ _ hrow.out
      have hck := block_cells ht hrow.out (2 + m) (by omega)
      rw [Nat.zero_add] at hck
      have hcs := heap_setCell_same wr.drew _ (2 + m) _ _ (.int .u8 (y : Int)) hrow.out
      have hcs2 := cells_put t (2 + m) y
      have HST := Lib.hid (hcs.trans (by rw [show (Value.int .u8 (y : Int)) = byteV y from rfl, hcs2]))
      have hb' := (Below.drew hb.out).setCell (p := ⟨w.heap.size, 2 + m, none⟩) (Nat.le_refl _) (.int .u8 (y : Int))
      have HB' := Lib.hid hb'
      have H2 : Hid ((wr.drew.setCell ⟨w.heap.size, 2 + m, none⟩ (.int .u8 (y : Int))).heap[w.heap.size + 1]? = some (.cells (cells noughts) 42 (0, 0))) := by
        show (wr.drew.setCell _ _).heap[_]? = _
        rw [Below.heap_setCell _ _ _ _ (by simp)]; exact hrow2.out
      have HBY := Lib.hid (hbt.set (2 + m) y hy)
      have hle : (t.set (2 + m) y).length = 128 := by rw [List.length_set, ht]
      have HSZ : Hid (w.heap.size + 2 ≤ (wr.drew.setCell ⟨w.heap.size, 2 + m, none⟩ (.int .u8 (y : Int))).heap.size) := by
        show w.heap.size + 2 ≤ _
        simpa using hsz.out
      clear hc hcs hcs2 hb' hb hrow hrow2 hr hbt hxe hye hm
      go_wp2_with fail
      go_region
      go_wp2
      go_roundw
      case rel => exact ⟨k + 2, t.set (2 + m) y, by omega, by go_num, hle, HBY.out, HB'.out, HSZ.out, HST.out, H2.out⟩
      case measure => simp [intOf]; omega
    · have hex : ¬ k + 1 < b.length ∨ (k + 1 < b.length ∧ ¬ k < 8) := by omega
      clear hlt
      rcases hex with h1 | ⟨h1, h2⟩
      · have h1I : ¬ (k : Int) + 1 < (b.length : Int) := by omega
        have hrs : Reads wr (some ⟨w.heap.size, 0, none⟩) 128 t := ⟨ht, hbt, .inr ⟨w.heap.size, 0, rfl, by have := hsz.out; omega, fun i hi => block_cells ht hrow.out i hi⟩⟩
        have HC := Lib.hid (rcrc_any (some ⟨w.heap.size, 0, none⟩) 124 128 _ wr (hrs.take 124 (by decide)) (by decide))
        clear hrs hr
        go_wp2_with fail
        refine HC.out.mono ?_
        rintro e w5 ⟨rfl, rfl⟩
        obtain ⟨c, hce⟩ : ∃ c, crc (t.take 124) = c := ⟨_, rfl⟩
        have hc32 : c < 4294967296 := by rw [← hce]; exact crc_lt _
        rw [hce]
        clear hce HC
        have HBW := hb
        go_wp2_with fail
        go_loopw [7] (fun i wx => ∃ (j : Nat) (t : List Nat), j ≤ 4 ∧ i = .int .i64 j ∧ t.length = 128 ∧ Bytes t ∧ Hid (Below w.heap.size w wx) ∧ Hid (w.heap.size + 2 ≤ wx.heap.size) ∧ Hid (wx.heap[w.heap.size]? = some (.cells (cells t) 42 (0, 0))) ∧ Hid (wx.heap[w.heap.size + 1]? = some (.cells (cells noughts) 42 (0, 0)))) (fun i _ => 20 - (intOf i).toNat)
        case atStart => exact ⟨0, t, by decide, rfl, ht, hbt, hb, hsz, hrow, hrow2⟩
        case round =>
          clear hb hsz hrow hrow2 ht hbt HBW
          obtain ⟨j, t, hj, rfl, ht, hbt, hb, hsz, hrow, hrow2⟩ := hrel
          by_cases hj4 : j < 4
          · have hfr : wr.frozen? ⟨w.heap.size, 124 + j, none⟩ = false := frozen_of_row _ _ _ _ _ hrow.out
            have hck := block_cells ht hrow.out (124 + j) (by omega)
            rw [Nat.zero_add] at hck
            have hjI : (0 : Int) ≤ 124 + (j : Int) ∧ 124 + (j : Int) < 128 := by omega
            have hv : (c : Int) / 2 ^ (8 * j) % 256 = ((c / 2 ^ (8 * j) % 256 : Nat) : Int) := by push_cast; rfl
            have hv2 : c / 2 ^ (8 * j) % 256 < 256 := Nat.mod_lt _ (by decide)
            have HV := Lib.hid hv
            clear hv
            go_wp2
            go_roundw
            case rel =>
              rw [HV.out]
              obtain ⟨y, hye⟩ : ∃ y, c / 2 ^ (8 * j) % 256 = y := ⟨_, rfl⟩
              rw [hye] at hv2 ⊢
              have hcs := heap_setCell_same wr _ (124 + j) _ _ (.int .u8 (y : Int)) hrow.out
              have hcs2 := cells_put t (124 + j) y
              have hst := hcs.trans (by rw [show (Value.int .u8 (y : Int)) = byteV y from rfl, hcs2])
              have hb' := hb.out.setCell (p := ⟨w.heap.size, 124 + j, none⟩) (Nat.le_refl _) (.int .u8 (y : Int))
              have h2 : (wr.setCell ⟨w.heap.size, 124 + j, none⟩ (.int .u8 (y : Int))).heap[w.heap.size + 1]? = some (.cells (cells noughts) 42 (0, 0)) := by
                rw [Below.heap_setCell _ _ _ _ (by simp)]; exact hrow2.out
              have hsz' : w.heap.size + 2 ≤ (wr.setCell ⟨w.heap.size, 124 + j, none⟩ (.int .u8 (y : Int))).heap.size := by simpa using hsz.out
              exact ⟨j + 1, t.set (124 + j) y, by omega, by go_num, by rw [List.length_set, ht], hbt.set _ _ hv2, hb', hsz', hst, h2⟩
            case measure => simp [intOf]; omega
          · obtain rfl : j = 4 := by omega
            have HCT := Lib.hid (block_cells ht hrow.out)
            have hd9 := setRow_heap _ (w.heap.size + 1) _ (cells t) _ _ hrow2.out
            have hb9 := below_setRow (g := w.heap.size + 1) hb.out (by omega) (cells t)
            go_wp2_with (first
              | refine wpList_load_sector rfl _ rfl w.heap.size 0 t rfl ht HCT.out ?_
              | refine wpList_store_sector rfl _ _ rfl (w.heap.size + 1) t rfl rfl ht _ _ hrow2.out rfl ?_)
            refine bodyPost_ret (results_turn rfl _ _ (w.heap.size + 1) t _ _ rfl hd9 ht) rfl ?_
            exact ⟨t, ht, hbt, rfl, hb9⟩
      · have h1I : (k : Int) + 1 < (b.length : Int) := by omega
        have h2I : ¬ (k : Int) < 8 := by omega
        have hrs : Reads wr (some ⟨w.heap.size, 0, none⟩) 128 t := ⟨ht, hbt, .inr ⟨w.heap.size, 0, rfl, by have := hsz.out; omega, fun i hi => block_cells ht hrow.out i hi⟩⟩
        have HC := Lib.hid (rcrc_any (some ⟨w.heap.size, 0, none⟩) 124 128 _ wr (hrs.take 124 (by decide)) (by decide))
        clear hrs hr
        go_wp2_with fail
        refine HC.out.mono ?_
        rintro e w5 ⟨rfl, rfl⟩
        obtain ⟨c, hce⟩ : ∃ c, crc (t.take 124) = c := ⟨_, rfl⟩
        have hc32 : c < 4294967296 := by rw [← hce]; exact crc_lt _
        rw [hce]
        clear hce HC
        have HBW := hb
        go_wp2_with fail
        go_loopw [7] (fun i wx => ∃ (j : Nat) (t : List Nat), j ≤ 4 ∧ i = .int .i64 j ∧ t.length = 128 ∧ Bytes t ∧ Hid (Below w.heap.size w wx) ∧ Hid (w.heap.size + 2 ≤ wx.heap.size) ∧ Hid (wx.heap[w.heap.size]? = some (.cells (cells t) 42 (0, 0))) ∧ Hid (wx.heap[w.heap.size + 1]? = some (.cells (cells noughts) 42 (0, 0)))) (fun i _ => 20 - (intOf i).toNat)
        case atStart => exact ⟨0, t, by decide, rfl, ht, hbt, hb, hsz, hrow, hrow2⟩
        case round =>
          clear hb hsz hrow hrow2 ht hbt HBW
          obtain ⟨j, t, hj, rfl, ht, hbt, hb, hsz, hrow, hrow2⟩ := hrel
          by_cases hj4 : j < 4
          · have hfr : wr.frozen? ⟨w.heap.size, 124 + j, none⟩ = false := frozen_of_row _ _ _ _ _ hrow.out
            have hck := block_cells ht hrow.out (124 + j) (by omega)
            rw [Nat.zero_add] at hck
            have hjI : (0 : Int) ≤ 124 + (j : Int) ∧ 124 + (j : Int) < 128 := by omega
            have hv : (c : Int) / 2 ^ (8 * j) % 256 = ((c / 2 ^ (8 * j) % 256 : Nat) : Int) := by push_cast; rfl
            have hv2 : c / 2 ^ (8 * j) % 256 < 256 := Nat.mod_lt _ (by decide)
            have HV := Lib.hid hv
            clear hv
            go_wp2
            go_roundw
            case rel =>
              rw [HV.out]
              obtain ⟨y, hye⟩ : ∃ y, c / 2 ^ (8 * j) % 256 = y := ⟨_, rfl⟩
              rw [hye] at hv2 ⊢
              have hcs := heap_setCell_same wr _ (124 + j) _ _ (.int .u8 (y : Int)) hrow.out
              have hcs2 := cells_put t (124 + j) y
              have hst := hcs.trans (by rw [show (Value.int .u8 (y : Int)) = byteV y from rfl, hcs2])
              have hb' := hb.out.setCell (p := ⟨w.heap.size, 124 + j, none⟩) (Nat.le_refl _) (.int .u8 (y : Int))
              have h2 : (wr.setCell ⟨w.heap.size, 124 + j, none⟩ (.int .u8 (y : Int))).heap[w.heap.size + 1]? = some (.cells (cells noughts) 42 (0, 0)) := by
                rw [Below.heap_setCell _ _ _ _ (by simp)]; exact hrow2.out
              have hsz' : w.heap.size + 2 ≤ (wr.setCell ⟨w.heap.size, 124 + j, none⟩ (.int .u8 (y : Int))).heap.size := by simpa using hsz.out
              exact ⟨j + 1, t.set (124 + j) y, by omega, by go_num, by rw [List.length_set, ht], hbt.set _ _ hv2, hb', hsz', hst, h2⟩
            case measure => simp [intOf]; omega
          · obtain rfl : j = 4 := by omega
            have HCT := Lib.hid (block_cells ht hrow.out)
            have hd9 := setRow_heap _ (w.heap.size + 1) _ (cells t) _ _ hrow2.out
            have hb9 := below_setRow (g := w.heap.size + 1) hb.out (by omega) (cells t)
            go_wp2_with (first
              | refine wpList_load_sector rfl _ rfl w.heap.size 0 t rfl ht HCT.out ?_
              | refine wpList_store_sector rfl _ _ rfl (w.heap.size + 1) t rfl rfl ht _ _ hrow2.out rfl ?_)
            refine bodyPost_ret (results_turn rfl _ _ (w.heap.size + 1) t _ _ rfl hd9 ht) rfl ?_
            exact ⟨t, ht, hbt, rfl, hb9⟩
end Go.Proofs.Ytplkglepbedhoaa
