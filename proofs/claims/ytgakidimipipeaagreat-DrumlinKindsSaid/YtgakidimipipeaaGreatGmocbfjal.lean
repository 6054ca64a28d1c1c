/- At most so many Entrys, each of which may be (codec.upTo). A Summary read of bytes (part.Read). A Summary that may be; a sealed sector of it (codec.write). What is read of bytes as a Summary: its numbers, its entries. The laying of one Record through a port, and of many, one behind the other (part.Each). -/
import Derived.Test.YtgakidimipipeaaGreatGahhnlinc
import Derived.Test.YtgakidimipipeaaGreatGkjcciiaj
import Derived.Test.YtgakidimipipeaaGreatGolgphjcg
import Derived.Test.YtgakidimipipeaaGreatGcgabeaeg
import Derived.Shelf.Abstract
namespace Go.Proofs.YtgakidimipipeaaGreat
open Go.RowKit Go.Sort
set_option linter.unusedVariables false
set_option linter.unusedSimpArgs false
set_option maxRecDepth 100000

def mayEntry (l : List FldD) : Bool := decide (1 ≤ fieldZ l 0 ∧ fieldZ l 0 ≤ 6)
def upEntry (L : List (List FldD)) : Bool := decide (L.length ≤ 8) && L.all mayEntry
theorem mayEntry_is (z0 z1 z2 z3 : Int) (w : World) : Calls Tryz.prog 70 #[.agg #[.int .i64 z0, .int .u32 z1, .int .u32 z2, .int .i64 z3]] w fun e w' => e = .returned (.bool (mayEntry (fldEntry z0 z1 z2 z3))) ∧ Below w.heap.size w w' := by
  have hm : mayEntry (fldEntry z0 z1 z2 z3) = decide (1 ≤ z0 ∧ z0 ≤ 6) := rfl
  rw [hm]
  clear hm
  go_enter Tryz.func70, Tryz.ntmps70
  go_wp2_with fail
  refine (among_is z0 1 6 _).mono ?_
  rintro e w2 ⟨rfl, rfl⟩
  go_wp2
  go_ret
  exact ⟨by simp, below_box _ _⟩
def IsUpEntry (w : World) (v : Value) : Prop := ∃ g1 g2 : Nat, v = .func (.func 104) #[] #[.pointer (some ⟨g1, 0, none⟩), .pointer (some ⟨g2, 0, none⟩)] ∧ w.heap[g1]? = some (.cells #[.int .i64 8] 3 (0, 0)) ∧ w.heap[g2]? = some (.cells #[.func (.func 70) #[] #[]] 148 (0, 0))
theorem IsUpEntry.below {w w' : World} {v : Value} (h : IsUpEntry w v) (b : Below w.heap.size w w') : IsUpEntry w' v := by
  obtain ⟨g1, g2, e, h1, h2⟩ := h
  exact ⟨g1, g2, e, (b.block g1 (Array.getElem?_eq_some_iff.1 h1).1).trans h1, (b.block g2 (Array.getElem?_eq_some_iff.1 h2).1).trans h2⟩
theorem uptoEntry_is (w : World) : Calls Tryz.prog 69 #[.int .i64 8, .func (.func 70) #[] #[]] w fun e w' => ∃ v, e = .returned v ∧ IsUpEntry w' v ∧ Below w.heap.size w w' := by
  have q1 := below_box w (.cells #[.int .i64 8] 3)
  have m1 := heap_alloc_new w (.cells #[.int .i64 8] 3)
  obtain ⟨w1, hw1⟩ : ∃ x, w.alloc (.cells #[.int .i64 8] 3) = x := ⟨_, rfl⟩
  have hs1 : w1.heap.size = w.heap.size + 1 := by rw [← hw1]; simp
  rw [hw1] at q1 m1
  have q2 := below_box w1 (.cells #[.func (.func 70) #[] #[]] 148)
  have m2 := heap_alloc_new w1 (.cells #[.func (.func 70) #[] #[]] 148)
  obtain ⟨w2, hw2⟩ : ∃ x, w1.alloc (.cells #[.func (.func 70) #[] #[]] 148) = x := ⟨_, rfl⟩
  rw [hw2] at q2 m2
  have m12 := (q2.block w.heap.size (by omega)).trans m1
  have HB := Lib.hid (below_next q1 q2)
  have HU : Hid (IsUpEntry w2 (.func (.func 104) #[] #[.pointer (some ⟨w.heap.size, 0, none⟩), .pointer (some ⟨w1.heap.size, 0, none⟩)])) := Lib.hid ⟨_, _, rfl, m12, m2⟩
  clear q1 m1 q2 m2 m12
  go_enter Tryz.func69, Tryz.ntmps69
  go_wp2
  go_ret
  rw [hs1] at HU
  exact ⟨_, rfl, HU.out, HB.out⟩
set_option maxHeartbeats 1600000 in
theorem upsEntry_is {w : World} (L : List (List FldD)) (hL : ∀ x ∈ L, IsFEntry x) (a : Option Addr) (cap : Nat) (hr : ReadsR w a 4 (L.map rowV)) (g1 g2 : Nat) (n1 : w.heap[g1]? = some (.cells #[.int .i64 8] 3 (0, 0))) (n2 : w.heap[g2]? = some (.cells #[.func (.func 70) #[] #[]] 148 (0, 0))) :
    Calls Tryz.prog 104 #[.slice a L.length cap, .pointer (some ⟨g1, 0, none⟩), .pointer (some ⟨g2, 0, none⟩)] w fun e w' => e = .returned (.bool (upEntry L)) ∧ Below w.heap.size w w' := by
  have hg1 : g1 < w.heap.size := (Array.getElem?_eq_some_iff.1 n1).1
  have hg2 : g2 < w.heap.size := (Array.getElem?_eq_some_iff.1 n2).1
  have c1 : w.cell? ⟨g1, 0, none⟩ = some (.int .i64 8) := (cell_of_row n1 0).trans rfl
  have c2 : w.cell? ⟨g2, 0, none⟩ = some (.func (.func 70) #[] #[]) := (cell_of_row n2 0).trans rfl
  obtain ⟨n, hn⟩ : ∃ n, L.length = n := ⟨_, rfl⟩
  have HN := Lib.hid hn
  have HL := Lib.hid hL
  have HR := Lib.hid hr
  rw [hn]
  clear hn hL hr n1 n2
  by_cases hm : n ≤ 8
  · have hmI : ¬ ((8 : Int) < (n : Int)) := by omega
    have HUP : Hid (upEntry L = L.all mayEntry) := by show _ = _; unfold upEntry; rw [HN.out, decide_eq_true hm, Bool.true_and]
    have HC2 := Lib.hid c2
    clear c2
    go_enter Tryz.func104, Tryz.ntmps104
    go_wp2
    clear c1
    go_loopw [13] (fun i wr => ∃ k : Nat, k ≤ n ∧ i = .int .i64 k ∧ Hid (∀ x ∈ L.take k, mayEntry x = true) ∧ Hid (Below w.heap.size w wr)) (fun i _ => n - (intOf i).toNat)
    case atStart => exact ⟨0, Nat.zero_le _, rfl, Lib.hid (by simp), Lib.hid (Below.refl _ _)⟩
    case round =>
      obtain ⟨k, hk, rfl, HA, HB⟩ := hrel
      by_cases hlt : k < n
      · obtain ⟨x, hx⟩ : ∃ x, L[k]? = some x := ⟨_, List.getElem?_eq_getElem (by rw [HN.out]; exact hlt)⟩
        obtain ⟨z0, z1, z2, z3, rfl, _⟩ := HL.out x (List.mem_of_getElem? hx)
        obtain ⟨b, off, rfl, hb, hc⟩ := (HR.out.below HB.out).row (show (L.map rowV)[k]? = some (rowV (fldEntry z0 z1 z2 z3)) by rw [List.getElem?_map, hx]; rfl)
        have hcell : ∀ (i : Nat) (u : Value), (rowV (fldEntry z0 z1 z2 z3))[i]? = some u → wr.cell? ⟨b, off + k * 4 + i, none⟩ = some u := fun i u hi => by
          have h1 := hc i u hi
          rwa [← Nat.add_assoc] at h1
        have c_0 : wr.cell? ⟨b, off + k * 4, none⟩ = some (.int .i64 z0) := hcell 0 _ rfl
        have c_1 : wr.cell? ⟨b, off + k * 4 + 1, none⟩ = some (.int .u32 z1) := hcell 1 _ rfl
        have c_2 : wr.cell? ⟨b, off + k * 4 + 2, none⟩ = some (.int .u32 z2) := hcell 2 _ rfl
        have c_3 : wr.cell? ⟨b, off + k * 4 + 3, none⟩ = some (.int .i64 z3) := hcell 3 _ rfl
        have c2 : wr.cell? ⟨g2, 0, none⟩ = some (.func (.func 70) #[] #[]) := (HB.out.cell (p := ⟨g2, 0, none⟩) hg2).trans HC2.out
        have hg2r : g2 < wr.heap.size := Nat.lt_of_lt_of_le hg2 HB.out.size
        have c2' : (wr.alloc (.cells #[.int .i64 z0, .int .u32 z1, .int .u32 z2, .int .i64 z3] 92)).cell? ⟨g2, 0, none⟩ = some (.func (.func 70) #[] #[]) := ((below_box wr (.cells #[.int .i64 z0, .int .u32 z1, .int .u32 z2, .int .i64 z3] 92)).cell (p := ⟨g2, 0, none⟩) hg2r).trans c2
        have hx0 : (0 : Int) ≤ (k : Int) := by omega
        have hx1 : (k : Int) < (n : Int) := by omega
        have HX := Lib.hid hx
        have HMAY := Lib.hid (mayEntry_is z0 z1 z2 z3 (wr.alloc (.cells #[.int .i64 z0, .int .u32 z1, .int .u32 z2, .int .i64 z3] 92)))
        clear hc hcell hx hb
        cases hmy : mayEntry (fldEntry z0 z1 z2 z3) with
        | true =>
          rw [hmy] at HMAY
          have HMY := Lib.hid hmy
          clear hmy
          go_wp2_with (go_at_call 70; refine HMAY.out.mono ?_; rintro e w5 ⟨rfl, b5⟩; have HB5 := Lib.hid (below_next (below_next HB.out (below_box wr (.cells #[.int .i64 z0, .int .u32 z1, .int .u32 z2, .int .i64 z3] 92))) b5); clear b5)
          go_roundw
          case rel =>
            refine ⟨k + 1, by omega, by go_num, Lib.hid fun x hx => ?_, HB5⟩
            rw [List.take_add_one, HX.out] at hx
            rcases List.mem_append.1 hx with hx | hx
            · exact HA.out x hx
            · obtain rfl : x = fldEntry z0 z1 z2 z3 := by simpa using hx
              exact HMY.out
          case measure => simp [intOf]; omega
        | false =>
          rw [hmy] at HMAY
          have HMY : Hid (upEntry L = false) := by
            show _ = _
            rw [HUP.out]
            exact List.all_eq_false.2 ⟨_, List.mem_of_getElem? HX.out, by rw [hmy]; decide⟩
          clear hmy
          go_wp2_with (go_at_call 70; refine HMAY.out.mono ?_; rintro e w5 ⟨rfl, b5⟩; have HB5 := Lib.hid (below_next (below_next HB.out (below_box wr (.cells #[.int .i64 z0, .int .u32 z1, .int .u32 z2, .int .i64 z3] 92))) b5); clear b5)
          go_ret
          exact ⟨by rw [HMY.out]; rfl, HB5.out⟩
      · obtain rfl : k = n := by omega
        have HMY : Hid (upEntry L = true) := by
          show _ = _
          have h := HA.out
          rw [List.take_of_length_le (by rw [HN.out]; exact Nat.le_refl _)] at h
          rw [HUP.out]
          exact List.all_eq_true.2 h
        go_wp2
        go_ret
        exact ⟨by rw [HMY.out]; rfl, HB.out⟩
  · have hmI : ((8 : Int) < (n : Int)) := by omega
    have HMY : Hid (upEntry L = false) := by show _ = _; unfold upEntry; rw [HN.out, decide_eq_false hm, Bool.false_and]
    clear c2
    go_enter Tryz.func104, Tryz.ntmps104
    go_wp2
    go_ret
    exact ⟨by rw [HMY.out]; rfl, Below.refl _ _⟩
theorem upEntry_len {L : List (List FldD)} (h : upEntry L = true) : L.length ≤ 8 := by
  unfold upEntry at h
  simp only [Bool.and_eq_true, decide_eq_true_eq] at h
  exact h.1
end Go.Proofs.YtgakidimipipeaaGreat

namespace Go.Proofs.YtgakidimipipeaaGreat
open Go.RowKit Go.Sort
set_option linter.unusedVariables false
set_option linter.unusedSimpArgs false
set_option maxRecDepth 100000

/-- A summary's cells. -/
def sumV (seq first : Nat) (commit : Bool) (next : Int) (time : Nat) (v : Value) : Array Value := #[.int .u64 seq, .int .u64 first, .bool commit, .int .i64 next, .int .u32 time, v]
theorem sumV_one (seq first : Nat) (commit : Bool) (next : Int) (time : Nat) (a : Option Addr) (n c : Nat) : (sumV seq first commit next time (.slice a n c)).all (·.oneCell') = true := by simp [sumV, Value.oneCell']
theorem zero_sum (w : World) : (zeroValue 43).run Tryz.prog w = .ok (.agg #[.int .u64 0, .int .u64 0, .bool false, .int .i64 0, .int .u32 0, .slice none 0 0]) w := by kernel_rfl
theorem size_sum : (Tryz.prog.info? 43).map (·.size) = some 6 := by kernel_rfl
theorem row_sum : ∃ d, Tryz.prog.underlying 43 = some d ∧ d.isRow = true := by
  cases h : Tryz.prog.underlying 43 with
  | none => exact absurd h (by decide)
  | some d =>
    refine ⟨d, rfl, ?_⟩
    have : (Tryz.prog.underlying 43).map (·.isRow) = some true := by kernel_rfl
    rw [h] at this
    simpa using this
/-- The count that is read. -/
def countS (b : List Nat) : Nat := ((((PS.rd b).next 8 0).next 8 0).next 1 0).num 1 0
theorem countS_lt {b : List Nat} (hb : Bytes b) : countS b < 256 := by
  unfold countS
  obtain ⟨b1, e1, _, _, k1⟩ := next_rd b 8 0
  obtain ⟨b2, e2, _, _, k2⟩ := next_rd b1 8 0
  obtain ⟨b3, e3, _, _, k3⟩ := next_rd b2 1 0
  rw [e1, e2, e3]
  exact num_lt (k3 (k2 (k1 hb))) 1 0 (by decide)
def ReadSumPost (w : World) (b : List Nat) (e : Ending) (w' : World) : Prop :=
  Below w.heap.size w w' ∧ ∃ v, e = .returned (.agg (sumC (.rd b) 0 0 false 0 0 0 v)) ∧ OwnsR' w.heap.size w' 92 4 v ((runD zeroEntry [] (sumS (.rd b) 0 0 false 0 0 0) (countS b)).map rowV)

set_option maxHeartbeats 1600000 in
theorem preadSum_is {w : World} {b : List Nat} {a : Option Addr} {cap : Nat} (hb : Bytes b) (hr : Reads w a b.length b) (hc : b.length ≤ cap) (hm : cap ≤ maxLen) :
    Calls Tryz.prog 85 #[.slice a b.length cap, .func (.func 31) #[] #[]] w (ReadSumPost w b) := by
  have hz := zero_sum
  obtain ⟨d, hd1, hd2⟩ := row_sum
  have b1 := below_box w (.cells #[.int .u64 0, .int .u64 0, .bool false, .int .i64 0, .int .u32 0, .slice none 0 0] 43)
  have n1 := heap_alloc_new w (.cells #[.int .u64 0, .int .u64 0, .bool false, .int .i64 0, .int .u32 0, .slice none 0 0] 43)
  obtain ⟨w1, hw1⟩ : ∃ w1, w.alloc (.cells #[.int .u64 0, .int .u64 0, .bool false, .int .i64 0, .int .u32 0, .slice none 0 0] 43) = w1 := ⟨_, rfl⟩
  have hs1 : w1.heap.size = w.heap.size + 1 := by rw [← hw1]; simp
  rw [hw1] at b1 n1
  have hr1 := hr.below b1
  have b2 := below_box w1 (.cells #[.int .u64 0, .int .u64 0, .bool false, .int .i64 0, .int .u32 0, .slice none 0 0] 43)
  have n2 := heap_alloc_new w1 (.cells #[.int .u64 0, .int .u64 0, .bool false, .int .i64 0, .int .u32 0, .slice none 0 0] 43)
  obtain ⟨w2, hw2⟩ : ∃ w2, w1.alloc (.cells #[.int .u64 0, .int .u64 0, .bool false, .int .i64 0, .int .u32 0, .slice none 0 0] 43) = w2 := ⟨_, rfl⟩
  have hs2 : w2.heap.size = w.heap.size + 2 := by rw [← hw2]; simp [hs1]
  rw [hw2] at b2 n2
  have hr2 := hr1.below b2
  have n12 := (b2.block w.heap.size (by omega)).trans n1
  have b3 := below_box w2 (.cells #[.slice a b.length cap] 205)
  have hab : b ≠ [] → ∀ x, a = some x → x.block < w.heap.size := by
    intro hb x hx
    obtain ⟨_, _, h | ⟨blk, off, rfl, hlt, _⟩⟩ := hr
    · exact absurd h hb
    · cases hx; exact hlt
  have ha := fun k (hk : k < w2.heap.size) (hkw : w.heap.size ≤ k) => away_rd_new hr2 hc hm hk (fun hb x hx => Nat.ne_of_lt (Nat.lt_of_lt_of_le (hab hb x hx) hkw))
  have hp := isPort_rd hr2 hc hm
  have hap : ∀ k, k < w2.heap.size → Apart (w2.alloc (.cells #[.slice a b.length cap] 205)) (.iface 203 (.pointer (some ⟨w2.heap.size, 0, none⟩))) (.rd b) k := fun k hk => by
    obtain ⟨g, a', cap', he, h⟩ := hp
    obtain rfl : g = w2.heap.size := by cases he; rfl
    exact (apart_rd h).2 (by omega)
  obtain ⟨w3, hw3⟩ : ∃ w3, w2.alloc (.cells #[.slice a b.length cap] 205) = w3 := ⟨_, rfl⟩
  have hs3 : w3.heap.size = w.heap.size + 3 := by rw [← hw3]; simp [hs2]
  rw [hw3] at b3 ha hp hap
  have n23 := (b3.block (w.heap.size + 1) (by omega)).trans (hs1 ▸ n2)
  have n13 := (b3.block w.heap.size (by omega)).trans n12
  have hcn := countS_lt hb
  have HST := Lib.hid (laySummary_is (K := countS b) (L := []) (commit := false) (next := 0) hp n23 (ha (w.heap.size + 1) (by omega) (by omega)) (by decide) (by decide) (by unfold I64; omega) (by decide) (by simp) (by simp) (ReadsR.nil _ _ _) (fun h => absurd rfl h) trivial (numI_nat _ _ 0) (by omega) (fun i _ => by
    rw [sumS_is _ _ _ _ (by decide) (by decide) (by decide)]
    obtain ⟨b', e, _⟩ := stS_rd (sumF 0 0 false 0 0 0) b
    show (runS zeroEntry [] (stS (.rd b) (sumF 0 0 false 0 0 0)) i).fits 9
    rw [e]
    obtain ⟨b2, e2, _⟩ := runS_rd zeroEntry b' i
    rw [e2]
    trivial))
  have HA := Lib.hid ha
  have HAP := Lib.hid hap
  have HB := Lib.hid (below_next (below_next b1 b2) b3)
  have N13 := Lib.hid n13
  clear n1 n2 n12 n23 n13 b1 b2 b3 hr1 hr2 ha hap hr hab hp hcn
  go_enter Tryz.func85, Tryz.ntmps85
  go_wp2_with fail
  rw [hs2] at HST HA HAP
  refine HST.out.mono ?_
  rintro e w4 ⟨rfl, v4, hrow, ho4, hp4⟩
  have hb4 : Below w.heap.size w w4 := by
    refine HB.out.trans ⟨hp4.os, hp4.tape, hp4.output, hp4.size, fun k hk => ?_⟩
    exact hp4.block k (by omega) (HAP.out k (by omega)) (by omega)
  have n4 : w4.heap[w.heap.size]? = some (.cells #[.int .u64 0, .int .u64 0, .bool false, .int .i64 0, .int .u32 0, .slice none 0 0] 43 (0, 0)) :=
    (hp4.block w.heap.size (by omega) (HAP.out _ (by omega)) (by omega)).trans N13.out
  obtain ⟨a4, c4, rfl, _, _, _⟩ := ho4.reads
  have HO := Lib.hid (ho4.less (show w.heap.size ≤ w3.heap.size by omega))
  obtain ⟨n4l, hn4⟩ : ∃ n, (List.map rowV (runD zeroEntry [] (sumS (.rd b) 0 0 false ([] : List (List FldD)).length 0 0) (countS b))).length = n := ⟨_, rfl⟩
  rw [hn4] at hrow HO
  obtain ⟨cs, hcs⟩ : ∃ cs, sumC (.rd b) 0 0 false ([] : List (List FldD)).length 0 0 (.slice a4 n4l c4) = cs := ⟨_, rfl⟩
  have hsz : cs.size = 6 := by rw [← hcs]; rfl
  have hone : cs.all (·.oneCell') = true := by rw [← hcs]; simp [sumC, Value.oneCell']
  have HCS := Lib.hid hcs
  rw [hcs] at hrow
  have hrg := row_range hrow
  have hszl : cs.toList.length = 6 := by simpa using hsz
  have hsi : (Tryz.prog.info? 43).map (·.size) = some cs.size := by rw [hsz]; exact size_sum
  have hsi2 : (Tryz.prog.info? 43).map (·.size) = some cs.toList.length := by rw [hszl]; exact size_sum
  have hold : (#[.int .u64 0, .int .u64 0, .bool false, .int .i64 0, .int .u32 0, .slice none 0 0] : Array Value).size = cs.size := by rw [hsz]; rfl
  have HB4 := Lib.hid (below_setRow (g := w.heap.size) hb4 (Nat.le_refl _) cs)
  have hfin := setRow_heap w4 w.heap.size _ cs _ _ n4
  have HO2 : Hid (OwnsR' w.heap.size (w4.setRow w.heap.size cs) 92 4 (.slice a4 n4l c4) (List.map rowV (runD zeroEntry [] (sumS (.rd b) 0 0 false ([] : List (List FldD)).length 0 0) (countS b)))) :=
    Lib.hid (owns_same HO.out fun j hj => setRow_other _ _ _ _ (by have := (ho4.lt j (by rw [hn4]; exact hj)).1; omega))
  clear HST HA HAP HB N13 hp4 hb4 ho4 HO hw1 hw2 hw3 hcs hn4
  go_wp2_with (first
    | refine wpList_load_mid rfl 43 _ rfl (w.heap.size + 1) 0 (by go_simp) cs.toList d hrg hd1 hd2 hsi2 ?_
    | refine wpList_store_row rfl 43 _ _ rfl w.heap.size cs (by go_simp) (by go_simp) _ _ n4 hsi hold hone ?_)
  refine bodyPost_ret (results_cell_row rfl _ _ w.heap.size _ _ _ d rfl hfin hd1 (by cases d <;> first | rfl | exact hd2) hsi) rfl ?_
  exact ⟨HB4.out, _, by rw [← HCS.out]; rfl, HO2.out⟩
end Go.Proofs.YtgakidimipipeaaGreat

namespace Go.Proofs.YtgakidimipipeaaGreat
open Go.RowKit Go.Sort
set_option linter.unusedVariables false
set_option linter.unusedSimpArgs false
set_option maxRecDepth 100000

set_option maxHeartbeats 1600000 in
theorem sumMay_is {w : World} {seq first time cap : Nat} {commit : Bool} {next : Int} (L : List (List FldD)) (hL : ∀ x ∈ L, IsFEntry x) (a : Option Addr) (hr : ReadsR w a 4 (L.map rowV)) :
    Calls Tryz.prog 30 #[.agg (sumV seq first commit next time (.slice a L.length cap))] w fun e w' => e = .returned (.bool (upEntry L)) ∧ Below w.heap.size w w' := by
  have b1 := below_box w (.cells (sumV seq first commit next time (.slice a L.length cap)) 43)
  have n1 := heap_alloc_new w (.cells (sumV seq first commit next time (.slice a L.length cap)) 43)
  obtain ⟨w1, hw1⟩ : ∃ w1, w.alloc (.cells (sumV seq first commit next time (.slice a L.length cap)) 43) = w1 := ⟨_, rfl⟩
  have hs1 : w1.heap.size = w.heap.size + 1 := by rw [← hw1]; simp
  rw [hw1] at b1 n1
  obtain ⟨w2, hw2⟩ : ∃ x, w1.drew = x := ⟨_, rfl⟩
  have b1d : Below w.heap.size w w2 := by rw [← hw2]; exact b1.drew
  have n1d : w2.heap[w.heap.size]? = some (.cells (sumV seq first commit next time (.slice a L.length cap)) 43 (0, 0)) := by rw [← hw2]; exact n1
  have c2 : w2.cell? ⟨w.heap.size, 5, none⟩ = some (.slice a L.length cap) := (cell_of_row n1d 5).trans rfl
  have hs2 : w2.heap.size = w.heap.size + 1 := by rw [← hw2]; exact hs1
  have H2 := Lib.hid (And.intro b1d (And.intro n1d (hr.below b1d)))
  clear b1 n1 hr b1d n1d
  go_enter Tryz.func30, Tryz.ntmps30
  go_wp2_with fail
  subst hw2
  refine wp_region_held_drew (S := fun W => W.cell? ⟨w.heap.size, 5, none⟩ = some (.slice a L.length cap)) (by kernel_rfl) c2 (fun hHeld => ?_)
  refine wpAnyH_take (i := 1) (v := .pointer (some ⟨w.heap.size, 5, none⟩)) rfl (by kernel_rfl) (by kernel_rfl) (by kernel_rfl) (fun _ _ _ h => h) (Or.inl ⟨by rfl, by intro W hSw; (try dsimp only at hSw); go_simp⟩) (by assumption) ?_
  try simp only [Act.put, List.setIfInBounds_toArray, List.set_cons_zero, List.set_cons_succ]
  refine wpAnyH_take (i := 2) (v := .slice a L.length cap) rfl (by kernel_rfl) (by kernel_rfl) (by kernel_rfl) (fun _ _ _ h => h) (Or.inl ⟨by rfl, by intro W hSw; (try dsimp only at hSw); go_simp⟩) (by assumption) ?_
  try simp only [Act.put, List.setIfInBounds_toArray, List.set_cons_zero, List.set_cons_succ]
  refine wpAnyH_ready (rs := [0]) (by kernel_rfl) (by simp) ?_
  refine AllReadyH.cons rfl (fun K' hK' => ?_) AllReadyH.nil
  go_simp
  refine (uptoEntry_is w1.drew).mono ?_
  rintro e w3 ⟨v, rfl, ⟨g1, g2, rfl, m1, m2⟩, b3⟩
  obtain ⟨b2, n2, hr2⟩ := H2.out
  have SA : w3.cell? ⟨w.heap.size, 5, none⟩ = some (.slice a L.length cap) := (cell_of_row ((b3.block w.heap.size (by omega)).trans n2) 5).trans rfl
  have n3 := (b3.block w.heap.size (by omega)).trans n2
  have hs3 := b3.size
  have HU := Lib.hid (upsEntry_is L hL a cap (hr2.below b3) g1 g2 m1 m2)
  have HB := Lib.hid (And.intro (b2.trans (b3.mono b2.size)) n3)
  clear b2 n2 hr2 H2 b3 m1 m2 hHeld n3
  refine hK'.out _ _ SA (fun hHeld => ?_)
  clear hK' K'
  try simp only [Act.put, List.setIfInBounds_toArray, List.set_cons_zero, List.set_cons_succ]
  refine wpAnyH_ready (rs := [3]) (by kernel_rfl) (by simp) ?_
  refine AllReadyH.cons rfl (fun K' hK' => ?_) AllReadyH.nil
  go_simp
  refine HU.out.mono ?_
  rintro e w4 ⟨rfl, b4⟩
  have SB : w4.cell? ⟨w.heap.size, 5, none⟩ = some (.slice a L.length cap) := (cell_of_row ((b4.block w.heap.size (by omega)).trans HB.out.2) 5).trans rfl
  have HB4 := Lib.hid (HB.out.1.trans (b4.mono HB.out.1.size))
  clear b4 hHeld HU
  refine hK'.out _ _ SB (fun hHeld => ?_)
  clear hK' K'
  try simp only [Act.put, List.setIfInBounds_toArray, List.set_cons_zero, List.set_cons_succ]
  refine wpAnyH_take (i := 4) (oi := { dst := some 2, op := Op.assign (Operand.tmp 6), type := 4, pos := "codec.go:127", after := #[{ on := 3, ground := Ground.data }, { on := 3, ground := Ground.chain }, { on := 0, ground := Ground.phase }, { on := 1, ground := Ground.phase }, { on := 2, ground := Ground.phase }, { on := 3, ground := Ground.phase }], guard := none }) (v := .bool (upEntry L)) rfl (by kernel_rfl) (by kernel_rfl) (by kernel_rfl) (fun _ _ _ h => h) (Or.inl ⟨by rfl, by intro W hSw; (try dsimp only at hSw); go_simp⟩) (by assumption) ?_
  try simp only [Act.put, List.setIfInBounds_toArray, List.set_cons_zero, List.set_cons_succ]
  refine wpAnyH_done (by kernel_rfl) ?_ _
  go_wp2
  go_ret
  exact ⟨rfl, HB4.out⟩

noncomputable def writeSm (seq first : Nat) (commit : Bool) (next : Int) (time : Nat) (L : List (List FldD)) : List Nat × Int :=
  if upEntry L = false ∨ wrF (sumF seq first commit L.length next time ++ L.flatten) = true then (noughts, 1) else (sealL 3 (wrB (sumF seq first commit L.length next time ++ L.flatten)), 0)
theorem wrSm_len {seq first : Nat} {commit : Bool} {next : Int} {time : Nat} {L : List (List FldD)} (hL : ∀ x ∈ L, IsFEntry x) : (wrB (sumF seq first commit L.length next time ++ L.flatten)).length = 24 + L.length * 9 := by
  rw [wrB_length, widths_append, sumF_widths, widths_flat (W := 9) (fun x hx => isFEntry_widths (hL x hx))]

set_option maxHeartbeats 1600000 in
theorem writeSum_is {w : World} {seq first time cap : Nat} {commit : Bool} {next : Int} {L : List (List FldD)} {a : Option Addr}
    (k0 : seq < 18446744073709551616) (k1 : first < 18446744073709551616) (k3 : I64 next) (k4 : time < 4294967296) (hL : ∀ x ∈ L, IsFEntry x) (hr : ReadsR w a 4 (L.map rowV)) :
    Calls Tryz.prog 29 #[.int .u8 3, .agg (sumV seq first commit next time (.slice a L.length cap)), .func (.func 30) #[] #[], .func (.func 31) #[] #[]] w fun e w' => e = .returned (.tuple #[.agg (cells (writeSm seq first commit next time L).1), .int .i64 (writeSm seq first commit next time L).2]) ∧ Below w.heap.size w w' := by
  have hz := zero_sector
  have hbld := build_sector
  obtain ⟨d, hd1, hd2⟩ := row_sum
  obtain ⟨X, hX⟩ : ∃ X, sumV seq first commit next time (.slice a L.length cap) = X := ⟨_, rfl⟩
  have hXs : X.size = 6 := by rw [← hX]; rfl
  have HMAY := Lib.hid (fun (w : World) (hr : ReadsR w a 4 (L.map rowV)) => hX ▸ sumMay_is (seq := seq) (first := first) (time := time) (cap := cap) (commit := commit) (next := next) (w := w) L hL a hr)
  have HPW : Hid (∀ (w : World), L.length ≤ 200 → ReadsR w a 4 (L.map rowV) → Calls Tryz.prog 68 #[.agg X, .func (.func 31) #[] #[]] w fun e w' => Below w.heap.size w w' ∧
      ((wrF (sumF seq first commit L.length next time ++ L.flatten) = true ∧ e = .returned (.tuple #[.slice none 0 0, .int .i64 1])) ∨ (wrF (sumF seq first commit L.length next time ++ L.flatten) = false ∧ ∃ v, e = .returned (.tuple #[v, .int .i64 0]) ∧ Owns w.heap.size w' v (wrB (sumF seq first commit L.length next time ++ L.flatten))))) := Lib.hid (fun w hl hr => by
    rw [← hX]
    exact pwriteSum_is k0 k1 k3 k4 hL hl hr)
  have hwl := wrSm_len (seq := seq) (first := first) (commit := commit) (next := next) (time := time) hL
  have HWS : Hid (writeSm seq first commit next time L = if upEntry L = false ∨ wrF (sumF seq first commit L.length next time ++ L.flatten) = true then (noughts, 1) else (sealL 3 (wrB (sumF seq first commit L.length next time ++ L.flatten)), 0)) := rfl
  rw [hX]
  obtain ⟨F, hF⟩ : ∃ F, sumF seq first commit L.length next time ++ L.flatten = F := ⟨_, rfl⟩
  obtain ⟨R, hR⟩ : ∃ R, writeSm seq first commit next time L = R := ⟨_, rfl⟩
  rw [hF] at HPW hwl HWS
  have HWL := Lib.hid hwl
  clear hwl
  rw [hR] at HWS ⊢
  have hsi : (Tryz.prog.info? 43).map (·.size) = some X.toList.length := by rw [Array.length_toList, hXs]; exact size_sum
  have b1 := below_box w (.cells X 43)
  have n1 := heap_alloc_new w (.cells X 43)
  obtain ⟨w1, hw1⟩ : ∃ w1, w.alloc (.cells X 43) = w1 := ⟨_, rfl⟩
  have hs1 : w1.heap.size = w.heap.size + 1 := by rw [← hw1]; simp
  rw [hw1] at b1 n1
  have b2 := below_box w1 (.cells (cells noughts) 31)
  have n2 := heap_alloc_new w1 (.cells (cells noughts) 31)
  have n1' := (b2.block w.heap.size (by omega)).trans n1
  have hr1 := row_range n1'
  have HB := Lib.hid (below_next b1 b2)
  rw [hs1] at n2
  obtain ⟨w2, hw2⟩ : ∃ w2, w1.alloc (.cells (cells noughts) 31) = w2 := ⟨_, rfl⟩
  rw [hw2] at n2 n1' hr1 HB
  have hs2 : w2.heap.size = w.heap.size + 2 := by rw [← hw2]; simp [hs1]
  have HR := Lib.hid hr
  have HLL := Lib.hid (fun h => upEntry_len (L := L) h)
  clear b1 n1 b2 hX hF hR hr
  go_enter Tryz.func29, Tryz.ntmps29
  go_wp2_with (refine wpList_load_mid rfl 43 _ rfl w.heap.size 0 (by go_simp) X.toList d hr1 hd1 hd2 hsi ?_)
  refine (HMAY.out w2 (HR.out.below HB.out)).mono ?_
  rintro e w3 ⟨rfl, b3⟩
  have n1'' := (b3.block w.heap.size (by omega)).trans n1'
  have n2'' := (b3.block (w.heap.size + 1) (by omega)).trans n2
  have HB3 : Hid (Below w.heap.size w w3) := HB.out.trans (b3.mono HB.out.size)
  have hs3 : w.heap.size + 2 ≤ w3.heap.size := by have := b3.size; omega
  have hr3 := row_range n1''
  clear b3 n1' n2 hr1 HB hw1 hw2 hs1 hs2
  cases hm : upEntry L with
  | false =>
    have hfin : R = (noughts, 1) := HWS.out.trans (if_pos (.inl hm))
    have HF := Lib.hid hfin
    clear hfin
    have hd := setRow_heap w3 (w.heap.size + 1) _ (cells noughts) _ _ n2''
    have hb := below_setRow (g := w.heap.size + 1) HB3.out (by omega) (cells noughts)
    go_wp2_with (refine wpList_store_sector rfl _ _ rfl (w.heap.size + 1) noughts (by go_simp) (by go_simp) rfl _ _ n2'' rfl ?_)
    refine bodyPost_ret (results_sector rfl _ _ (w.heap.size + 1) noughts _ _ rfl hd rfl) rfl ?_
    exact ⟨by rw [HF.out]; rfl, hb⟩
  | true =>
    have hl8 := HLL.out hm
    go_wp2_with (refine wpList_load_mid rfl 43 _ rfl w.heap.size 0 (by go_simp) X.toList d hr3 hd1 hd2 hsi ?_)
    refine (HPW.out w3 (by omega) (HR.out.below HB3.out)).mono ?_
    rintro e w4 ⟨b4, ⟨hf, rfl⟩ | ⟨hf, v, rfl, ho⟩⟩
    · have hfin : R = (noughts, 1) := HWS.out.trans (if_pos (.inr hf))
      have HF := Lib.hid hfin
      clear hfin
      have n4 := (b4.block (w.heap.size + 1) (by omega)).trans n2''
      have hd := setRow_heap w4 (w.heap.size + 1) _ (cells noughts) _ _ n4
      have hb := below_setRow (g := w.heap.size + 1) (HB3.out.trans (b4.mono HB3.out.size)) (by omega) (cells noughts)
      clear b4 n1'' n2'' hr3 hf
      go_wp2_with (refine wpList_store_sector rfl _ _ rfl (w.heap.size + 1) noughts (by go_simp) (by go_simp) rfl _ _ n4 rfl ?_)
      refine bodyPost_ret (results_sector rfl _ _ (w.heap.size + 1) noughts _ _ rfl hd rfl) rfl ?_
      exact ⟨by rw [HF.out]; rfl, hb⟩
    · have hfin : R = (sealL 3 (wrB F), 0) := HWS.out.trans (if_neg (by rw [hm, hf]; simp))
      have HF := Lib.hid hfin
      clear hfin
      have n4 := (b4.block (w.heap.size + 1) (by omega)).trans n2''
      obtain ⟨a4, cap4, rfl, hr4, _, _⟩ := ho.reads
      have HB4 : Hid (Below w.heap.size w w4) := HB3.out.trans (b4.mono HB3.out.size)
      have hs4 := Nat.le_trans hs3 b4.size
      have hlen : (wrB F).length ≤ 120 := by rw [HWL.out]; omega
      clear b4 n1'' n2'' hr3 ho HB3 hf
      go_wp2_with fail
      refine (make_ok 3 (wrB F) a4 _ cap4 w4 hr4 hlen (by decide) (by decide)).mono ?_
      rintro e w5 ⟨rfl, b5⟩
      have n5 := (b5.block (w.heap.size + 1) (by omega)).trans n4
      have hsl := sealL_length (kind := 3) hlen
      have hd := setRow_heap w5 (w.heap.size + 1) _ (cells (sealL 3 (wrB F))) _ _ n5
      have hb := below_setRow (g := w.heap.size + 1) (HB4.out.trans (b5.mono HB4.out.size)) (by omega) (cells (sealL 3 (wrB F)))
      clear b5 n4 hr4 HB4
      go_wp2_with (refine wpList_store_sector rfl _ _ rfl (w.heap.size + 1) (sealL 3 (wrB F)) (by go_simp) (by go_simp) hsl _ _ n5 rfl ?_)
      refine bodyPost_ret (results_sector rfl _ _ (w.heap.size + 1) (sealL 3 (wrB F)) _ _ rfl hd hsl) rfl ?_
      exact ⟨by rw [HF.out]; rfl, hb⟩
end Go.Proofs.YtgakidimipipeaaGreat

namespace Go.Proofs.YtgakidimipipeaaGreat
open Go.RowKit Go.Sort
set_option linter.unusedVariables false
set_option linter.unusedSimpArgs false
set_option maxRecDepth 100000

theorem zeroEntry_cons : ∃ x l, zeroEntry = x :: l ∧ 1 ≤ x.width := ⟨_, _, rfl, by decide⟩
theorem zeroEntry_width : ∀ x ∈ zeroEntry, x.width ≤ 4 := by decide
theorem zeroEntry_widths : widths zeroEntry = 9 := rfl
theorem outEntry_is {b : List Nat} (hb : Bytes b) : IsFEntry (stO (.rd b) zeroEntry) := by
  have hlen : (stO (.rd b) zeroEntry).length = 4 := by rw [stO_length]; rfl
  obtain ⟨z0, g0, p0, q0⟩ := stO_rd zeroEntry b hb zeroEntry_width 0 _ rfl
  obtain ⟨z1, g1, p1, q1⟩ := stO_rd zeroEntry b hb zeroEntry_width 1 _ rfl
  obtain ⟨z2, g2, p2, q2⟩ := stO_rd zeroEntry b hb zeroEntry_width 2 _ rfl
  obtain ⟨z3, g3, p3, q3⟩ := stO_rd zeroEntry b hb zeroEntry_width 3 _ rfl
  match h : stO (.rd b) zeroEntry, hlen with
  | [a0, a1, a2, a3], _ =>
    rw [h] at g0 g1 g2 g3
    obtain rfl : a0 = ⟨.i64, 1, z0⟩ := Option.some.inj g0
    obtain rfl : a1 = ⟨.u32, 2, z1⟩ := Option.some.inj g1
    obtain rfl : a2 = ⟨.u32, 4, z2⟩ := Option.some.inj g2
    obtain rfl : a3 = ⟨.i64, 2, z3⟩ := Option.some.inj g3
    exact ⟨z0, z1, z2, z3, rfl, (by unfold I64; omega), ⟨p1, q1⟩, ⟨p2, q2⟩, (by unfold I64; omega)⟩

def rdSeq (b : List Nat) : Nat := (PS.rd b).num 8 0
def rdFirst (b : List Nat) : Nat := ((PS.rd b).next 8 0).num 8 0
def rdCommit (b : List Nat) : Bool := flagO (((PS.rd b).next 8 0).next 8 0) false
def rdNext (b : List Nat) : Int := (((((PS.rd b).next 8 0).next 8 0).next 1 (u64of (flagN false))).next 1 (u64of ((0 : Nat) : Int))).numI 2 0
def rdTime (b : List Nat) : Nat := ((((((PS.rd b).next 8 0).next 8 0).next 1 (u64of (flagN false))).next 1 (u64of ((0 : Nat) : Int))).next 2 (u64of 0)).num 4 0
def rdList (b : List Nat) : List (List FldD) := runD zeroEntry [] (sumS (.rd b) 0 0 false 0 0 0) (countS b)
theorem sumC_rd (b : List Nat) (v : Value) : sumC (.rd b) 0 0 false 0 0 0 v = sumV (rdSeq b) (rdFirst b) (rdCommit b) (rdNext b) (rdTime b) v := rfl
theorem rdList_length {b : List Nat} : (rdList b).length = countS b := runD_length _ _ _ _
theorem rdSum_is {b : List Nat} (hb : Bytes b) : rdSeq b < 18446744073709551616 ∧ rdFirst b < 18446744073709551616 ∧ (0 ≤ rdNext b ∧ rdNext b < 65536) ∧ rdTime b < 4294967296 ∧ ∀ x ∈ rdList b, IsFEntry x := by
  obtain ⟨b1, e1, _, _, k1⟩ := next_rd b 8 0
  obtain ⟨b2, e2, _, _, k2⟩ := next_rd b1 8 0
  obtain ⟨b3, e3, _, _, k3⟩ := next_rd b2 1 (u64of (flagN false))
  obtain ⟨b4, e4, _, _, k4⟩ := next_rd b3 1 (u64of ((0 : Nat) : Int))
  obtain ⟨b5, e5, _, _, k5⟩ := next_rd b4 2 (u64of 0)
  have h1 := k1 hb
  have h2 := k2 h1
  have h3 := k3 h2
  have h4 := k4 h3
  have h5 := k5 h4
  refine ⟨?_, ?_, ?_, ?_, ?_⟩
  · exact num_lt hb 8 0 (by decide)
  · unfold rdFirst
    rw [e1]
    exact num_lt h1 8 0 (by decide)
  · unfold rdNext
    rw [e1, e2, e3, e4]
    have := num_lt h4 2 (u64of 0) (by decide)
    refine ⟨Int.natCast_nonneg _, ?_⟩
    show ((PS.num (.rd b4) 2 (u64of 0) : Nat) : Int) < 65536
    have h : PS.num (.rd b4) 2 (u64of 0) < 65536 := this
    omega
  · unfold rdTime
    rw [e1, e2, e3, e4, e5]
    exact num_lt h5 4 0 (by decide)
  · intro x hx
    unfold rdList at hx
    rw [sumS_is _ _ _ _ (by decide) (by decide) (by decide)] at hx
    obtain ⟨b', e, _, k⟩ := stS_rd (sumF 0 0 false 0 0 0) b
    rw [e] at hx
    obtain ⟨b'', rfl, k'⟩ := runD_mem zeroEntry b' _ x hx
    exact outEntry_is (k' (k hb))
end Go.Proofs.YtgakidimipipeaaGreat

namespace Go.Proofs.YtgakidimipipeaaGreat
open Go.RowKit Go.Sort
set_option linter.unusedVariables false
set_option linter.unusedSimpArgs false
set_option maxRecDepth 100000

def fldRecord (z0 z1 z2 z3 : Int) : List FldD := [⟨.u32, 2, z0⟩, ⟨.u32, 4, z1⟩, ⟨.i64, 2, z2⟩, ⟨.i64, 1, z3⟩]
def IsFRecord (l : List FldD) : Prop := ∃ z0 z1 z2 z3 : Int, l = fldRecord z0 z1 z2 z3 ∧ (0 ≤ z0 ∧ z0 < 4294967296) ∧ (0 ≤ z1 ∧ z1 < 4294967296) ∧ I64 z2 ∧ I64 z3
def zeroRecord : List FldD := fldRecord 0 0 0 0
theorem zeroRecord_is : IsFRecord zeroRecord := ⟨0, 0, 0, 0, rfl, by omega, by omega, by unfold I64; omega, by unfold I64; omega⟩
theorem isFRecord_length {l : List FldD} (h : IsFRecord l) : l.length = 4 := by obtain ⟨z0, z1, z2, z3, rfl, _⟩ := h; rfl
theorem isFRecord_widths {l : List FldD} (h : IsFRecord l) : widths l = 9 := by obtain ⟨z0, z1, z2, z3, rfl, _⟩ := h; rfl
set_option maxHeartbeats 1600000 in
theorem layRecord_is {l : List FldD} {gx : Nat} {w0 w : World} {pv : Value} {S : PS} (hl : IsFRecord l) (h : LayAt l gx 56 w0 pv S 0 w) :
    Calls Tryz.prog 17 #[pv, .pointer (some ⟨gx, 0, none⟩)] w fun e w' => e = .returned (.tuple #[]) ∧ LayAt l gx 56 w0 pv S 4 w' := by
  obtain ⟨z0, z1, z2, z3, rfl, k0, k1, k2, k3⟩ := hl
  have H := Lib.hid h
  clear h
  go_enter Tryz.func17, Tryz.ntmps17
  go_wp2_with fail
  refine (lay_u32 (q := 2) H.out rfl k0 (by decide) (by decide)).mono ?_
  rintro e w1 ⟨rfl, h1⟩
  have H1 := Lib.hid h1
  clear h1 H
  go_wp2_with fail
  refine (lay_u32 (q := 4) H1.out rfl k1 (by decide) (by decide)).mono ?_
  rintro e w2 ⟨rfl, h2⟩
  have H2 := Lib.hid h2
  clear h2 H1
  go_wp2_with fail
  refine (lay_i64 (q := 2) H2.out rfl k2 (by decide) (by decide)).mono ?_
  rintro e w3 ⟨rfl, h3⟩
  have H3 := Lib.hid h3
  clear h3 H2
  go_wp2_with fail
  refine (lay_i64 (q := 1) H3.out rfl k3 (by decide) (by decide)).mono ?_
  rintro e w4 ⟨rfl, h4⟩
  have H4 := Lib.hid h4
  clear h4 H3
  go_wp2
  go_end0
  exact ⟨rfl, H4.out⟩
theorem infoRecord : (Tryz.prog.info? 56).map (fun i => (i.zero, i.size, i.bytes)) = some (some (.agg #[.int .u32 0, .int .u32 0, .int .i64 0, .int .i64 0]), 4, 24) := by kernel_rfl
set_option maxHeartbeats 1600000 in
theorem eachRecord_is {w0 : World} {pv : Value} {S0 : PS} (L : List (List FldD)) (hL : ∀ x ∈ L, IsFRecord x) (a : Option Addr) (cap : Nat) (hr : ReadsR w0 a 4 (L.map rowV)) (hap : L ≠ [] → ∀ b off, a = some ⟨b, off, none⟩ → b < w0.heap.size ∧ Apart w0 pv S0 b) (hport : IsPort w0 pv S0)
    (K : Nat) (hK : K ≤ 2000) (hLl : L.length ≤ 2000) (hfit : ∀ i, i < K → (runS zeroRecord L S0 i).fits 9) (gm : Nat) (caps : Array Value) (eg : ∀ args w, (callFunc gm args).run Tryz.prog w = .ok (.enter gm args) w)
    (hmore : ∀ (i : Nat) (W : World) (v : Value), i ≤ K → EachAt 56 4 w0 pv S0 W (runS zeroRecord L S0 i) v (runD zeroRecord L S0 i) → Calls Tryz.prog gm (#[.int .i64 (i : Int)] ++ caps) W fun e w' => e = .returned (.bool (decide (i < K))) ∧ W = w') :
    Calls Tryz.prog 41 #[pv, .slice a L.length cap, .func (.func gm) #[] caps, .func (.func 17) #[] #[]] w0 fun e w' => ∃ v, e = .returned v ∧ EachAt 56 4 w0 pv S0 w' (runS zeroRecord L S0 K) v (runD zeroRecord L S0 K) := by
  obtain ⟨n, hn⟩ : ∃ n, L.length = n := ⟨_, rfl⟩
  have HN := Lib.hid hn
  have HST := Lib.hid (each_start 56 4 hport)
  have HL := Lib.hid hL
  have HR := Lib.hid hr
  have HAP := Lib.hid hap
  have HF := Lib.hid hfit
  have HM := Lib.hid hmore
  rw [hn] at hLl ⊢
  clear hn hL hr hap hfit hmore hport
  go_enter Tryz.func41, Tryz.ntmps41
  go_wp2_with fail
  go_loopw [9, 10] (fun v i wr => ∃ k : Nat, k ≤ K ∧ i = .int .i64 k ∧ Hid (EachAt 56 4 w0 pv S0 wr (runS zeroRecord L S0 k) v (runD zeroRecord L S0 k))) (fun _ i _ => K - (intOf i).toNat)
  case atStart => exact ⟨0, Nat.zero_le _, rfl, HST.out⟩
  case round =>
    rename_i v9 _ _
    obtain ⟨k, hk, rfl, HE⟩ := hrel
    have hm := HM.out k wr _ hk HE.out
    by_cases hlt : k < K
    · have hd : decide (k < K) = true := decide_eq_true hlt
      rw [hd] at hm
      have HMK := Lib.hid hm
      have hfk := HF.out k hlt
      obtain ⟨S, hS⟩ : ∃ S, runS zeroRecord L S0 k = S := ⟨_, rfl⟩
      obtain ⟨Dn, hD⟩ : ∃ Dn, runD zeroRecord L S0 k = Dn := ⟨_, rfl⟩
      have hDl : Dn.length = k := by rw [← hD]; exact runD_length _ _ _ _
      have HS : Hid (runS zeroRecord L S0 (k + 1) = stS S (itemAt zeroRecord L k) ∧ runD zeroRecord L S0 (k + 1) = Dn ++ [stO S (itemAt zeroRecord L k)]) := by show _ ∧ _; rw [← hS, ← hD]; exact ⟨rfl, rfl⟩
      rw [hS] at hfk
      rw [hS, hD] at HE
      have HDL := Lib.hid hDl
      clear hm hd hS hD hDl
      have hx0 : (0 : Int) ≤ (k : Int) := by omega
      by_cases hil : k < n
      · obtain ⟨x, hx⟩ : ∃ x, L[k]? = some x := ⟨_, List.getElem?_eq_getElem (by rw [HN.out]; exact hil)⟩
        have hit : itemAt zeroRecord L k = x := itemAt_in hx
        rw [hit] at HS
        have hLne : L ≠ [] := by rintro rfl; simp at hx
        have hxi := HL.out x (List.mem_of_getElem? hx)
        have hxw := isFRecord_widths hxi
        have HXI := Lib.hid hxi
        obtain ⟨z0, z1, z2, z3, rfl, k0, k1, k2, k3⟩ := hxi
        obtain ⟨b, off, rfl, hb, hc⟩ := HR.out.row (show (L.map rowV)[k]? = some (rowV (fldRecord z0 z1 z2 z3)) by rw [List.getElem?_map, hx]; rfl)
        obtain ⟨_, hapb⟩ := HAP.out hLne b off rfl
        have hcell : ∀ (i : Nat) (u : Value), (rowV (fldRecord z0 z1 z2 z3))[i]? = some u → (wr.alloc (.cells #[.int .u32 0, .int .u32 0, .int .i64 0, .int .i64 0] 56)).cell? ⟨b, off + k * 4 + i, none⟩ = some u := fun i u hi => by
          have h1 := hc i u hi
          rw [← Nat.add_assoc] at h1
          refine ((below_box wr (.cells #[.int .u32 0, .int .u32 0, .int .i64 0, .int .i64 0] 56)).cell (p := ⟨b, off + k * 4 + i, none⟩) (Nat.lt_of_lt_of_le hb HE.out.went.size)).trans ?_
          exact (World.cell?_of_block (a := ⟨b, off + k * 4 + i, none⟩) (HE.out.went.block b hb hapb (by omega))).trans h1
        have c0 : (wr.alloc (.cells #[.int .u32 0, .int .u32 0, .int .i64 0, .int .i64 0] 56)).cell? ⟨b, off + k * 4, none⟩ = some (.int .u32 z0) := hcell 0 _ rfl
        have c1 : (wr.alloc (.cells #[.int .u32 0, .int .u32 0, .int .i64 0, .int .i64 0] 56)).cell? ⟨b, off + k * 4 + 1, none⟩ = some (.int .u32 z1) := hcell 1 _ rfl
        have c2 : (wr.alloc (.cells #[.int .u32 0, .int .u32 0, .int .i64 0, .int .i64 0] 56)).cell? ⟨b, off + k * 4 + 2, none⟩ = some (.int .i64 z2) := hcell 2 _ rfl
        have c3 : (wr.alloc (.cells #[.int .u32 0, .int .u32 0, .int .i64 0, .int .i64 0] 56)).cell? ⟨b, off + k * 4 + 3, none⟩ = some (.int .i64 z3) := hcell 3 _ rfl
        have HLAY : Hid (LayAt (fldRecord z0 z1 z2 z3) wr.heap.size 56 (wr.alloc (.cells #[.int .u32 z0, .int .u32 z1, .int .i64 z2, .int .i64 z3] 56)) pv S 0 (wr.alloc (.cells #[.int .u32 z0, .int .u32 z1, .int .i64 z2, .int .i64 z3] 56))) := Lib.hid (HE.out.lay (fldRecord z0 z1 z2 z3) (by rw [hxw]; exact hfk))
        have hx1 : (k : Int) < (n : Int) := by omega
        have HIT := Lib.hid hit
        clear hc hcell hx hit hLne hapb hb hfk hxw hil
        go_wp2_with (go_at_fn gm; refine HMK.out.mono ?_; rintro e w1 ⟨rfl, rfl⟩)
        refine (layRecord_is HXI.out HLAY.out).mono ?_
        rintro e w2 ⟨rfl, h2⟩
        obtain ⟨E2, row2, sz2⟩ := HE.out.laid (isFRecord_length HXI.out) h2
        obtain ⟨y0, y1, y2, y3, hout⟩ : ∃ y0 y1 y2 y3, stO S (fldRecord z0 z1 z2 z3) = fldRecord y0 y1 y2 y3 := ⟨_, _, _, _, rfl⟩
        rw [hout] at row2 HS
        have e0 : w2.cell? ⟨wr.heap.size, 0, none⟩ = some (.int .u32 y0) := (cell_of_row row2 0).trans rfl
        have e1 : w2.cell? ⟨wr.heap.size, 1, none⟩ = some (.int .u32 y1) := (cell_of_row row2 1).trans rfl
        have e2 : w2.cell? ⟨wr.heap.size, 2, none⟩ = some (.int .i64 y2) := (cell_of_row row2 2).trans rfl
        have e3 : w2.cell? ⟨wr.heap.size, 3, none⟩ = some (.int .i64 y3) := (cell_of_row row2 3).trans rfl
        have HE2 := Lib.hid (E2.alloc (.cells #[.int .u32 y0, .int .u32 y1, .int .i64 y2, .int .i64 y3] 56))
        have n3 : (w2.alloc (.cells #[.int .u32 y0, .int .u32 y1, .int .i64 y2, .int .i64 y3] 56)).heap[w2.heap.size]? = some (.cells (cellsF (fldRecord y0 y1 y2 y3)) 56 (0, 0)) := heap_alloc_new w2 _
        have HN3 := Lib.hid n3
        have HSZ : Hid (w0.heap.size ≤ w2.heap.size) := Lib.hid E2.went.size
        have HDL2 : Hid ((Dn.map rowV).length = k) := by show _ = _; rw [List.length_map]; exact HDL.out
        clear h2 E2 hout row2 sz2 n3
        go_wp2_with (at_builtin; refine wpList_append_row_at rfl _ _ _ rfl w0.heap.size 56 _ 4 24 Tryz.underlying51 infoRecord rfl (by decide) _ (Dn.map rowV) rfl HE2.out.own w2.heap.size 1 (rowV (fldRecord y0 y1 y2 y3)) rfl rfl (fun j u hj => ((cell_of_row HN3.out j).trans (cellsF_row _ j)).trans hj) (fun u hu => by simp only [fldRecord, rowV, List.map_cons, List.map_nil, List.mem_cons, List.not_mem_nil, or_false] at hu; rcases hu with rfl | rfl | rfl | rfl <;> rfl) (by rw [HDL2.out]; omega) (by rw [HDL2.out]; unfold maxLen; omega) (by simp; have := HSZ.out; omega) ?_; intro v4 w4 o4 g4 l4; have E4 := Lib.hid (HE2.out.next o4 g4 l4); clear o4 g4 l4)
        go_roundw
        case rel =>
          refine ⟨k + 1, by omega, by go_num, ?_⟩
          show EachAt _ _ _ _ _ _ _ _ _
          rw [HS.out.1, HS.out.2]
          exact E4.out
        case measure => simp [intOf]; omega
      · have hit : itemAt zeroRecord L k = zeroRecord := itemAt_out (by rw [HN.out]; omega)
        rw [hit] at HS
        have HXI := Lib.hid zeroRecord_is
        have HLAY : Hid (LayAt zeroRecord wr.heap.size 56 (wr.alloc (.cells #[.int .u32 0, .int .u32 0, .int .i64 0, .int .i64 0] 56)) pv S 0 (wr.alloc (.cells #[.int .u32 0, .int .u32 0, .int .i64 0, .int .i64 0] 56))) := Lib.hid (HE.out.lay zeroRecord (by rw [isFRecord_widths zeroRecord_is]; exact hfk))
        have hx1 : ¬ (k : Int) < (n : Int) := by omega
        clear hit hfk hil
        go_wp2_with (go_at_fn gm; refine HMK.out.mono ?_; rintro e w1 ⟨rfl, rfl⟩)
        refine (layRecord_is HXI.out HLAY.out).mono ?_
        rintro e w2 ⟨rfl, h2⟩
        obtain ⟨E2, row2, sz2⟩ := HE.out.laid (isFRecord_length HXI.out) h2
        obtain ⟨y0, y1, y2, y3, hout⟩ : ∃ y0 y1 y2 y3, stO S zeroRecord = fldRecord y0 y1 y2 y3 := ⟨_, _, _, _, rfl⟩
        rw [hout] at row2 HS
        have e0 : w2.cell? ⟨wr.heap.size, 0, none⟩ = some (.int .u32 y0) := (cell_of_row row2 0).trans rfl
        have e1 : w2.cell? ⟨wr.heap.size, 1, none⟩ = some (.int .u32 y1) := (cell_of_row row2 1).trans rfl
        have e2 : w2.cell? ⟨wr.heap.size, 2, none⟩ = some (.int .i64 y2) := (cell_of_row row2 2).trans rfl
        have e3 : w2.cell? ⟨wr.heap.size, 3, none⟩ = some (.int .i64 y3) := (cell_of_row row2 3).trans rfl
        have HE2 := Lib.hid (E2.alloc (.cells #[.int .u32 y0, .int .u32 y1, .int .i64 y2, .int .i64 y3] 56))
        have n3 : (w2.alloc (.cells #[.int .u32 y0, .int .u32 y1, .int .i64 y2, .int .i64 y3] 56)).heap[w2.heap.size]? = some (.cells (cellsF (fldRecord y0 y1 y2 y3)) 56 (0, 0)) := heap_alloc_new w2 _
        have HN3 := Lib.hid n3
        have HSZ : Hid (w0.heap.size ≤ w2.heap.size) := Lib.hid E2.went.size
        have HDL2 : Hid ((Dn.map rowV).length = k) := by show _ = _; rw [List.length_map]; exact HDL.out
        clear h2 E2 hout row2 sz2 n3
        go_wp2_with (at_builtin; refine wpList_append_row_at rfl _ _ _ rfl w0.heap.size 56 _ 4 24 Tryz.underlying51 infoRecord rfl (by decide) _ (Dn.map rowV) rfl HE2.out.own w2.heap.size 1 (rowV (fldRecord y0 y1 y2 y3)) rfl rfl (fun j u hj => ((cell_of_row HN3.out j).trans (cellsF_row _ j)).trans hj) (fun u hu => by simp only [fldRecord, rowV, List.map_cons, List.map_nil, List.mem_cons, List.not_mem_nil, or_false] at hu; rcases hu with rfl | rfl | rfl | rfl <;> rfl) (by rw [HDL2.out]; omega) (by rw [HDL2.out]; unfold maxLen; omega) (by simp; have := HSZ.out; omega) ?_; intro v4 w4 o4 g4 l4; have E4 := Lib.hid (HE2.out.next o4 g4 l4); clear o4 g4 l4)
        go_roundw
        case rel =>
          refine ⟨k + 1, by omega, by go_num, ?_⟩
          show EachAt _ _ _ _ _ _ _ _ _
          rw [HS.out.1, HS.out.2]
          exact E4.out
        case measure => simp [intOf]; omega
    · have hd : decide (k < K) = false := decide_eq_false hlt
      rw [hd] at hm
      obtain rfl : k = K := by omega
      have HMK := Lib.hid hm
      clear hm hd
      go_wp2_with (go_at_fn gm; refine HMK.out.mono ?_; rintro e w1 ⟨rfl, rfl⟩)
      go_ret
      exact ⟨_, rfl, HE.out⟩
end Go.Proofs.YtgakidimipipeaaGreat
