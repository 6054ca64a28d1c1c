/- At most so many Entrys, each of which may be (codec.upTo). -/
import Derived.Test.YtplkglepbedhoaaGhjodiooo
namespace Go.Proofs.Ytplkglepbedhoaa
open Go.RowKit Go.Sort
set_option linter.unusedVariables false
set_option linter.unusedSimpArgs false
set_option maxRecDepth 100000

def mayEntry (l : List FldD) : Bool := decide (1 ≤ fieldZ l 0 ∧ fieldZ l 0 ≤ 6)
def upEntry (L : List (List FldD)) : Bool := decide (L.length ≤ 8) && L.all mayEntry
theorem mayEntry_is (z0 z1 z2 z3 : Int) (w : World) : Calls Try.prog 159 #[.agg #[.int .i64 z0, .int .u32 z1, .int .u32 z2, .int .i64 z3]] w fun e w' => e = .returned (.bool (mayEntry (fldEntry z0 z1 z2 z3))) ∧ Below w.heap.size w w' := by
  have hm : mayEntry (fldEntry z0 z1 z2 z3) = decide (1 ≤ z0 ∧ z0 ≤ 6) := rfl
  rw [hm]
  clear hm
  go_enter Try.func159, Try.ntmps159
  go_wp2_with fail
  refine (among_is z0 1 6 _).mono ?_
  rintro e w2 ⟨rfl, rfl⟩
  go_wp2
  go_ret
  exact ⟨by simp, below_box _ _⟩
def IsUpEntry (w : World) (v : Value) : Prop := ∃ g1 g2 : Nat, v = .func (.func 214) #[] #[.pointer (some ⟨g1, 0, none⟩), .pointer (some ⟨g2, 0, none⟩)] ∧ w.heap[g1]? = some (.cells #[.int .i64 8] 3 (0, 0)) ∧ w.heap[g2]? = some (.cells #[.func (.func 159) #[] #[]] 264 (0, 0))
theorem IsUpEntry.below {w w' : World} {v : Value} (h : IsUpEntry w v) (b : Below w.heap.size w w') : IsUpEntry w' v := by
  obtain ⟨g1, g2, e, h1, h2⟩ := h
  exact ⟨g1, g2, e, (b.block g1 (Array.getElem?_eq_some_iff.1 h1).1).trans h1, (b.block g2 (Array.getElem?_eq_some_iff.1 h2).1).trans h2⟩
theorem uptoEntry_is (w : World) : Calls Try.prog 158 #[.int .i64 8, .func (.func 159) #[] #[]] w fun e w' => ∃ v, e = .returned v ∧ IsUpEntry w' v ∧ Below w.heap.size w w' := by
  have q1 := below_box w (.cells #[.int .i64 8] 3)
  have m1 := heap_alloc_new w (.cells #[.int .i64 8] 3)
  obtain ⟨w1, hw1⟩ : ∃ x, w.alloc (.cells #[.int .i64 8] 3) = x := ⟨_, rfl⟩
  have hs1 : w1.heap.size = w.heap.size + 1 := by rw [← hw1]; simp
  rw [hw1] at q1 m1
  have q2 := below_box w1 (.cells #[.func (.func 159) #[] #[]] 264)
  have m2 := heap_alloc_new w1 (.cells #[.func (.func 159) #[] #[]] 264)
  obtain ⟨w2, hw2⟩ : ∃ x, w1.alloc (.cells #[.func (.func 159) #[] #[]] 264) = x := ⟨_, rfl⟩
  rw [hw2] at q2 m2
  have m12 := (q2.block w.heap.size (by omega)).trans m1
  have HB := Lib.hid (below_next q1 q2)
  have HU : Hid (IsUpEntry w2 (.func (.func 214) #[] #[.pointer (some ⟨w.heap.size, 0, none⟩), .pointer (some ⟨w1.heap.size, 0, none⟩)])) := Lib.hid ⟨_, _, rfl, m12, m2⟩
  clear q1 m1 q2 m2 m12
  go_enter Try.func158, Try.ntmps158
  go_wp2
  go_ret
  rw [hs1] at HU
  exact ⟨_, rfl, HU.out, HB.out⟩
set_option maxHeartbeats 1600000 in
theorem upsEntry_is {w : World} (L : List (List FldD)) (hL : ∀ x ∈ L, IsFEntry x) (a : Option Addr) (cap : Nat) (hr : ReadsR w a 4 (L.map rowV)) (g1 g2 : Nat) (n1 : w.heap[g1]? = some (.cells #[.int .i64 8] 3 (0, 0))) (n2 : w.heap[g2]? = some (.cells #[.func (.func 159) #[] #[]] 264 (0, 0))) :
    Calls Try.prog 214 #[.slice a L.length cap, .pointer (some ⟨g1, 0, none⟩), .pointer (some ⟨g2, 0, none⟩)] w fun e w' => e = .returned (.bool (upEntry L)) ∧ Below w.heap.size w w' := by
  have hg1 : g1 < w.heap.size := (Array.getElem?_eq_some_iff.1 n1).1
  have hg2 : g2 < w.heap.size := (Array.getElem?_eq_some_iff.1 n2).1
  have c1 : w.cell? ⟨g1, 0, none⟩ = some (.int .i64 8) := (cell_of_row n1 0).trans rfl
  have c2 : w.cell? ⟨g2, 0, none⟩ = some (.func (.func 159) #[] #[]) := (cell_of_row n2 0).trans rfl
  obtain ⟨n, hn⟩ : ∃ n, L.length = n := ⟨_, rfl⟩
  have HN := Lib.hid hn
  have HL := Lib.hid hL
  have HR := Lib.hid hr
  rw [hn]
  clear hn hL hr n1 n2
  by_cases hm : n ≤ 8
  · have hmI : ¬ ((8 : Int) < (n : Int)) := by omega
    have HUP : Hid (upEntry L = L.all mayEntry) := by show _ = _; unfold upEntry; rw [HN.out, decide_eq_true hm, Bool.true_and]
    have HC2 := Lib.hid c2
    clear c2
    go_enter Try.func214, Try.ntmps214
    go_wp2
    clear c1
    go_loopw [13] (fun i wr => ∃ k : Nat, k ≤ n ∧ i = .int .i64 k ∧ Hid (∀ x ∈ L.take k, mayEntry x = true) ∧ Hid (Below w.heap.size w wr)) (fun i _ => n - (intOf i).toNat)
    case atStart => exact ⟨0, Nat.zero_le _, rfl, Lib.hid (by simp), Lib.hid (Below.refl _ _)⟩
    case round =>
      obtain ⟨k, hk, rfl, HA, HB⟩ := hrel
      by_cases hlt : k < n
      · obtain ⟨x, hx⟩ : ∃ x, L[k]? = some x := ⟨_, List.getElem?_eq_getElem (by rw [HN.out]; exact hlt)⟩
        obtain ⟨z0, z1, z2, z3, rfl, _⟩ := HL.out x (List.mem_of_getElem? hx)
        obtain ⟨b, off, rfl, hb, hc⟩ := (HR.out.below HB.out).row (show (L.map rowV)[k]? = some (rowV (fldEntry z0 z1 z2 z3)) by rw [List.getElem?_map, hx]; rfl)
        have hcell : ∀ (i : Nat) (u : Value), (rowV (fldEntry z0 z1 z2 z3))[i]? = some u → wr.cell? ⟨b, off + k * 4 + i, none⟩ = some u := fun i u hi => by
          have h1 := hc i u hi
          rwa [← Nat.add_assoc] at h1
        have c_0 : wr.cell? ⟨b, off + k * 4, none⟩ = some (.int .i64 z0) := hcell 0 _ rfl
        have c_1 : wr.cell? ⟨b, off + k * 4 + 1, none⟩ = some (.int .u32 z1) := hcell 1 _ rfl
        have c_2 : wr.cell? ⟨b, off + k * 4 + 2, none⟩ = some (.int .u32 z2) := hcell 2 _ rfl
        have c_3 : wr.cell? ⟨b, off + k * 4 + 3, none⟩ = some (.int .i64 z3) := hcell 3 _ rfl
        have c2 : wr.cell? ⟨g2, 0, none⟩ = some (.func (.func 159) #[] #[]) := (HB.out.cell (p := ⟨g2, 0, none⟩) hg2).trans HC2.out
        have hg2r : g2 < wr.heap.size := Nat.lt_of_lt_of_le hg2 HB.out.size
        have c2' : (wr.alloc (.cells #[.int .i64 z0, .int .u32 z1, .int .u32 z2, .int .i64 z3] 163)).cell? ⟨g2, 0, none⟩ = some (.func (.func 159) #[] #[]) := ((below_box wr (.cells #[.int .i64 z0, .int .u32 z1, .int .u32 z2, .int .i64 z3] 163)).cell (p := ⟨g2, 0, none⟩) hg2r).trans c2
        have hx0 : (0 : Int) ≤ (k : Int) := by omega
        have hx1 : (k : Int) < (n : Int) := by omega
        have HX := Lib.hid hx
        have HMAY := Lib.hid (mayEntry_is z0 z1 z2 z3 (wr.alloc (.cells #[.int .i64 z0, .int .u32 z1, .int .u32 z2, .int .i64 z3] 163)))
        clear hc hcell hx hb
        cases hmy : mayEntry (fldEntry z0 z1 z2 z3) with
        | true =>
          rw [hmy] at HMAY
          have HMY := Lib.hid hmy
          clear hmy
          go_wp2_with (go_at_call 159; refine HMAY.out.mono ?_; rintro e w5 ⟨rfl, b5⟩; have HB5 := Lib.hid (below_next (below_next HB.out (below_box wr (.cells #[.int .i64 z0, .int .u32 z1, .int .u32 z2, .int .i64 z3] 163))) b5); clear b5)
          go_roundw
          case rel =>
            refine ⟨k + 1, by omega, by go_num, Lib.hid fun x hx => ?_, HB5⟩
            rw [List.take_add_one, HX.out] at hx
            rcases List.mem_append.1 hx with hx | hx
            · exact HA.out x hx
            · obtain rfl : x = fldEntry z0 z1 z2 z3 := by simpa using hx
              exact HMY.out
          case measure => simp [intOf]; omega
        | false =>
          rw [hmy] at HMAY
          have HMY : Hid (upEntry L = false) := by
            show _ = _
            rw [HUP.out]
            exact List.all_eq_false.2 ⟨_, List.mem_of_getElem? HX.out, by rw [hmy]; decide⟩
          clear hmy
          go_wp2_with (go_at_call 159; refine HMAY.out.mono ?_; rintro e w5 ⟨rfl, b5⟩; have HB5 := Lib.hid (below_next (below_next HB.out (below_box wr (.cells #[.int .i64 z0, .int .u32 z1, .int .u32 z2, .int .i64 z3] 163))) b5); clear b5)
          go_ret
          exact ⟨by rw [HMY.out]; rfl, HB5.out⟩
      · obtain rfl : k = n := by omega
        have HMY : Hid (upEntry L = true) := by
          show _ = _
          have h := HA.out
          rw [List.take_of_length_le (by rw [HN.out]; exact Nat.le_refl _)] at h
          rw [HUP.out]
          exact List.all_eq_true.2 h
        go_wp2
        go_ret
        exact ⟨by rw [HMY.out]; rfl, HB.out⟩
  · have hmI : ((8 : Int) < (n : Int)) := by omega
    have HMY : Hid (upEntry L = false) := by show _ = _; unfold upEntry; rw [HN.out, decide_eq_false hm, Bool.false_and]
    clear c2
    go_enter Try.func214, Try.ntmps214
    go_wp2
    go_ret
    exact ⟨by rw [HMY.out]; rfl, Below.refl _ _⟩
theorem upEntry_len {L : List (List FldD)} (h : upEntry L = true) : L.length ≤ 8 := by
  unfold upEntry at h
  simp only [Bool.and_eq_true, decide_eq_true_eq] at h
  exact h.1
end Go.Proofs.Ytplkglepbedhoaa
