/- Lists of Slots written to bytes and read of bytes (part.Write, part.Read). At most so many Slots, each of which may be (codec.upTo); a sealed sector of them (codec.write). A sealed sector of Slots read (codec.read); codec's own WriteSlots and ReadSlots. Codec's own ReadSlots. The laying of one Use through a port, and of many, one behind the other (part.Each). -/
import Derived.Test.YtgakidimipipeaaGreatGdgeabifm
import Derived.Test.YtgakidimipipeaaGreatGkcidpoml
import Derived.Deep.RegionHeld3
import Derived.Test.YtgakidimipipeaaGreatGegjignoa
import Derived.Test.YtgakidimipipeaaGreatGcgabeaeg
import Derived.Shelf.Abstract
namespace Go.Proofs.YtgakidimipipeaaGreat
open Go.RowKit Go.Sort
set_option linter.unusedVariables false
set_option linter.unusedSimpArgs false
set_option maxRecDepth 100000

theorem zeroSlot_cons : ∃ x l, zeroSlot = x :: l ∧ 1 ≤ x.width := ⟨_, _, rfl, by decide⟩
theorem zeroSlot_width : ∀ x ∈ zeroSlot, x.width ≤ 4 := by decide
theorem zeroSlot_widths : widths zeroSlot = 11 := rfl
theorem outSlot_is {b : List Nat} (hb : Bytes b) : IsFSlot (stO (.rd b) zeroSlot) := by
  have hlen : (stO (.rd b) zeroSlot).length = 4 := by rw [stO_length]; rfl
  obtain ⟨z0, g0, p0, q0⟩ := stO_rd zeroSlot b hb zeroSlot_width 0 _ rfl
  obtain ⟨z1, g1, p1, q1⟩ := stO_rd zeroSlot b hb zeroSlot_width 1 _ rfl
  obtain ⟨z2, g2, p2, q2⟩ := stO_rd zeroSlot b hb zeroSlot_width 2 _ rfl
  obtain ⟨z3, g3, p3, q3⟩ := stO_rd zeroSlot b hb zeroSlot_width 3 _ rfl
  match h : stO (.rd b) zeroSlot, hlen with
  | [a0, a1, a2, a3], _ =>
    rw [h] at g0 g1 g2 g3
    obtain rfl : a0 = ⟨.i64, 4, z0⟩ := Option.some.inj g0
    obtain rfl : a1 = ⟨.u32, 4, z1⟩ := Option.some.inj g1
    obtain rfl : a2 = ⟨.i64, 2, z2⟩ := Option.some.inj g2
    obtain rfl : a3 = ⟨.i64, 1, z3⟩ := Option.some.inj g3
    exact ⟨z0, z1, z2, z3, rfl, (by unfold I64; omega), ⟨p1, q1⟩, (by unfold I64; omega), (by unfold I64; omega)⟩
theorem itemsSlot_is {b : List Nat} (hb : Bytes b) : ∀ x ∈ itemsR zeroSlot b, IsFSlot x := by
  intro x hx
  obtain ⟨b', rfl, k⟩ := runD_mem zeroSlot b _ x hx
  exact outSlot_is (k hb)
set_option maxHeartbeats 1600000 in
theorem pwriteSlot_is {w : World} (L : List (List FldD)) (hL : ∀ x ∈ L, IsFSlot x) (hLl : L.length ≤ 60) (a : Option Addr) (cap gb : Nat) (tb : TypeId) (nb : w.heap[gb]? = some (.cells #[.func (.func 51) #[] #[]] tb (0, 0))) (hr : ReadsR w a 4 (L.map rowV)) :
    Calls Tryz.prog 111 #[.slice a L.length cap, .func (.func 89) #[] #[.pointer (some ⟨gb, 0, none⟩)]] w fun e w' => Below w.heap.size w w' ∧
      ((wrF L.flatten = true ∧ e = .returned (.tuple #[.slice none 0 0, .int .i64 1])) ∨ (wrF L.flatten = false ∧ ∃ v, e = .returned (.tuple #[v, .int .i64 0]) ∧ Owns w.heap.size w' v (wrB L.flatten))) := by
  have b1 := below_box w (.cells #[.slice a L.length cap] 65)
  have n1 := heap_alloc_new w (.cells #[.slice a L.length cap] 65)
  obtain ⟨w1, hw1⟩ : ∃ w1, w.alloc (.cells #[.slice a L.length cap] 65) = w1 := ⟨_, rfl⟩
  have hs1 : w1.heap.size = w.heap.size + 1 := by rw [← hw1]; simp
  rw [hw1] at b1 n1
  have hgb : gb < w.heap.size := (Array.getElem?_eq_some_iff.1 nb).1
  have b2 := below_box w1 (.cells #[.slice none 0 0, .bool false] 157)
  have hp := isPort_new w1
  have ha := fun k (hk : k < w1.heap.size) => away_new w1 hk
  obtain ⟨w2, hw2⟩ : ∃ w2, w1.alloc (.cells #[.slice none 0 0, .bool false] 157) = w2 := ⟨_, rfl⟩
  have hs2 : w2.heap.size = w.heap.size + 2 := by rw [← hw2]; simp [hs1]
  rw [hw2] at b2 hp ha
  have n2 := (b2.block w.heap.size (by omega)).trans n1
  have nb2 := (b2.block gb (by omega)).trans ((b1.block gb hgb).trans nb)
  have hr2 := (hr.below b1).below b2
  have hab : L ≠ [] → ∀ b off, a = some ⟨b, off, none⟩ → b < w2.heap.size ∧ Apart w2 (.iface 158 (.pointer (some ⟨w1.heap.size, 0, none⟩))) (.wr [] false) b := fun hne b off e => by
    obtain ⟨_, h | ⟨b', off', e', hb', _⟩⟩ := hr
    · exact absurd (List.map_eq_nil_iff.1 h) hne
    · rw [e] at e'
      cases e'
      exact ⟨by omega, (ha b (by omega)).apart⟩
  have HST := Lib.hid (restSlot_is hp L hL a cap w.heap.size gb _ tb (by decide) n2 (ha _ (by omega)) nb2 (ha _ (by omega)).apart (by omega) hr2 hab L.length (by omega) (by omega) (fits_run zeroSlot L (fun x hx => isFSlot_widths (hL x hx)) (by omega)) (left_wr zeroSlot L))
  rw [runD_wr zeroSlot L [] false L.length (Nat.le_refl _), runS_wr zeroSlot L _ L.length (Nat.le_refl _), List.take_length, stS_is] at HST
  have HA := Lib.hid ha
  have HB2 := Lib.hid (below_next b1 b2)
  clear b1 n1 b2 hp ha n2 nb nb2 hr hr2 hab
  go_enter Tryz.func111, Tryz.ntmps111
  go_wp2_with fail
  rw [hs1] at HST HA
  refine HST.out.mono ?_
  rintro e w3 ⟨rfl, v3, _, _, hp3⟩
  obtain ⟨g, v, he, hw3, ho3⟩ := hp3.port
  obtain rfl : g = w.heap.size + 1 := by cases he; rfl
  have hb3 : Below w.heap.size w w3 := by
    have hb : Below w.heap.size w2 w3 := by
      refine ⟨hp3.os, hp3.tape, hp3.output, hp3.size, fun k hk => ?_⟩
      exact hp3.block k (by omega) (HA.out k (by omega)).apart (by omega)
    exact HB2.out.trans hb
  have hon : Owns w.heap.size w3 v (wrB L.flatten) := by
    refine owns_raise ho3 fun k hk => ?_
    have h2 := hp3.away k (by omega) (HA.out k (by omega))
    exact ((away_wr ⟨hw3, ho3⟩).1 h2).2
  have c0 := cell_of_row hw3 0
  have c1 := cell_of_row hw3 1
  obtain ⟨av, lv, cpv, hv⟩ := owned_slice hon.2
  subst hv
  have HB3 := Lib.hid hb3
  have HO := Lib.hid hon
  clear hp3 hw3 ho3 hon hb3 he HST HA HB2 hw1 hw2
  cases hf : wrF L.flatten with
  | true =>
    rw [hf] at c1
    go_wp2
    go_ret2
    exact ⟨HB3.out, .inl ⟨hf, rfl⟩⟩
  | false =>
    rw [hf] at c1
    go_wp2
    go_ret2
    exact ⟨HB3.out, .inr ⟨hf, _, rfl, HO.out⟩⟩
set_option maxHeartbeats 1600000 in
theorem preadSlot_is {w : World} {b : List Nat} {a : Option Addr} {cap gb : Nat} (tb : TypeId) (nb : w.heap[gb]? = some (.cells #[.func (.func 51) #[] #[]] tb (0, 0))) (hr : Reads w a b.length b) (hc : b.length ≤ cap) (hm : cap ≤ maxLen) (hbl : b.length ≤ 1000) :
    Calls Tryz.prog 86 #[.slice a b.length cap, .func (.func 89) #[] #[.pointer (some ⟨gb, 0, none⟩)]] w (ReadListPost 118 4 w (itemsR zeroSlot b)) := by
  have b1 := below_box w (.cells #[.slice none 0 0] 65)
  have n1 := heap_alloc_new w (.cells #[.slice none 0 0] 65)
  obtain ⟨w1, hw1⟩ : ∃ w1, w.alloc (.cells #[.slice none 0 0] 65) = w1 := ⟨_, rfl⟩
  have hs1 : w1.heap.size = w.heap.size + 1 := by rw [← hw1]; simp
  rw [hw1] at b1 n1
  have hgb : gb < w.heap.size := (Array.getElem?_eq_some_iff.1 nb).1
  have hr1 := hr.below b1
  have b2 := below_box w1 (.cells #[.slice a b.length cap] 205)
  have hp := isPort_rd hr1 hc hm
  have hab : b ≠ [] → ∀ x, a = some x → x.block < w.heap.size := by
    intro hb x hx
    obtain ⟨_, _, h | ⟨blk, off, rfl, hlt, _⟩⟩ := hr
    · exact absurd h hb
    · cases hx; exact hlt
  have ha := away_rd_new hr1 hc hm (k := w.heap.size) (by omega) (fun hb x hx => Nat.ne_of_lt (hab hb x hx))
  have hap : ∀ k, k < w1.heap.size → Apart (w1.alloc (.cells #[.slice a b.length cap] 205)) (.iface 203 (.pointer (some ⟨w1.heap.size, 0, none⟩))) (.rd b) k := fun k hk => by
    obtain ⟨g, a', cap', he, h⟩ := hp
    obtain rfl : g = w1.heap.size := by cases he; rfl
    exact (apart_rd h).2 (by omega)
  obtain ⟨w2, hw2⟩ : ∃ w2, w1.alloc (.cells #[.slice a b.length cap] 205) = w2 := ⟨_, rfl⟩
  have hs2 : w2.heap.size = w.heap.size + 2 := by rw [← hw2]; simp [hs1]
  rw [hw2] at b2 hp ha hap
  have n2 := (b2.block w.heap.size (by omega)).trans n1
  have nb2 := (b2.block gb (by omega)).trans ((b1.block gb hgb).trans nb)
  have hK : countR zeroSlot b ≤ b.length := (rounds_spec zeroSlot_cons b.length b (Nat.le_refl _)).1
  have HST := Lib.hid (restSlot_is hp [] (by simp) none 0 w.heap.size gb _ tb (by decide) n2 ha nb2 (hap gb (by omega)) (by omega) (ReadsR.nil _ _ _) (fun h => absurd rfl h) (countR zeroSlot b) (by omega) (by simp) (fun i _ => by obtain ⟨b', e, _⟩ := runS_rd zeroSlot b i; rw [e]; trivial) (left_rd zeroSlot_cons b))
  have HAP := Lib.hid hap
  have HB2 := Lib.hid (below_next b1 b2)
  clear b1 n1 b2 hp ha n2 nb nb2 hr hr1 hab hap hK
  go_enter Tryz.func86, Tryz.ntmps86
  go_wp2_with fail
  rw [hs1] at HST HAP
  refine HST.out.mono ?_
  rintro e w3 ⟨rfl, v3, hx3, ho3, hp3⟩
  have hb3 : Below w.heap.size w w3 := by
    have hb : Below w.heap.size w2 w3 := by
      refine ⟨hp3.os, hp3.tape, hp3.output, hp3.size, fun k hk => ?_⟩
      exact hp3.block k (by omega) (HAP.out k (by omega)) (by omega)
    exact HB2.out.trans hb
  obtain ⟨a3, c3, rfl, _, _, _⟩ := ho3.reads
  have c0 := cell_of_row hx3 0
  have HB3 := Lib.hid hb3
  have HO := Lib.hid (ho3.less (show w.heap.size ≤ w2.heap.size by omega))
  obtain ⟨n3, hn3⟩ : ∃ n, (List.map rowV (runD zeroSlot [] (.rd b) (countR zeroSlot b))).length = n := ⟨_, rfl⟩
  rw [hn3] at c0 HO
  clear hp3 hx3 ho3 hb3 HST HAP HB2 hw1 hw2 hn3
  go_wp2
  go_ret
  exact ⟨HB3.out, _, rfl, HO.out⟩
end Go.Proofs.YtgakidimipipeaaGreat

namespace Go.Proofs.YtgakidimipipeaaGreat
open Go.RowKit Go.Sort
set_option linter.unusedVariables false
set_option linter.unusedSimpArgs false
set_option maxRecDepth 100000

def maySlot (l : List FldD) : Bool := decide (0 ≤ fieldZ l 3 ∧ fieldZ l 3 ≤ 2)
def upSlot (L : List (List FldD)) : Bool := decide (L.length ≤ 10) && L.all maySlot
noncomputable def writeSlot (L : List (List FldD)) : List Nat × Int := if upSlot L = false ∨ wrF L.flatten = true then (noughts, 1) else (sealL 4 (wrB L.flatten), 0)
theorem maySlot_is (z0 z1 z2 z3 : Int) (w : World) : Calls Tryz.prog 49 #[.agg #[.int .i64 z0, .int .u32 z1, .int .i64 z2, .int .i64 z3]] w fun e w' => e = .returned (.bool (maySlot (fldSlot z0 z1 z2 z3))) ∧ Below w.heap.size w w' := by
  have hm : maySlot (fldSlot z0 z1 z2 z3) = decide (0 ≤ z3 ∧ z3 ≤ 2) := rfl
  rw [hm]
  clear hm
  go_enter Tryz.func49, Tryz.ntmps49
  go_wp2_with fail
  refine (among_is z3 0 2 _).mono ?_
  rintro e w2 ⟨rfl, rfl⟩
  go_wp2
  go_ret
  exact ⟨by simp, below_box _ _⟩
def IsUpSlot (w : World) (v : Value) : Prop := ∃ g1 g2 : Nat, v = .func (.func 88) #[] #[.pointer (some ⟨g1, 0, none⟩), .pointer (some ⟨g2, 0, none⟩)] ∧ w.heap[g1]? = some (.cells #[.int .i64 10] 3 (0, 0)) ∧ w.heap[g2]? = some (.cells #[.func (.func 49) #[] #[]] 119 (0, 0))
theorem IsUpSlot.below {w w' : World} {v : Value} (h : IsUpSlot w v) (b : Below w.heap.size w w') : IsUpSlot w' v := by
  obtain ⟨g1, g2, e, h1, h2⟩ := h
  exact ⟨g1, g2, e, (b.block g1 (Array.getElem?_eq_some_iff.1 h1).1).trans h1, (b.block g2 (Array.getElem?_eq_some_iff.1 h2).1).trans h2⟩
def IsRestSlot (w : World) (v : Value) : Prop := ∃ g : Nat, v = .func (.func 89) #[] #[.pointer (some ⟨g, 0, none⟩)] ∧ w.heap[g]? = some (.cells #[.func (.func 51) #[] #[]] 122 (0, 0))
theorem IsRestSlot.below {w w' : World} {v : Value} (h : IsRestSlot w v) (b : Below w.heap.size w w') : IsRestSlot w' v := by
  obtain ⟨g, e, h1⟩ := h
  exact ⟨g, e, (b.block g (Array.getElem?_eq_some_iff.1 h1).1).trans h1⟩
theorem uptoSlot_is (w : World) : Calls Tryz.prog 48 #[.int .i64 10, .func (.func 49) #[] #[]] w fun e w' => ∃ v, e = .returned v ∧ IsUpSlot w' v ∧ Below w.heap.size w w' := by
  have q1 := below_box w (.cells #[.int .i64 10] 3)
  have m1 := heap_alloc_new w (.cells #[.int .i64 10] 3)
  obtain ⟨w1, hw1⟩ : ∃ x, w.alloc (.cells #[.int .i64 10] 3) = x := ⟨_, rfl⟩
  have hs1 : w1.heap.size = w.heap.size + 1 := by rw [← hw1]; simp
  rw [hw1] at q1 m1
  have q2 := below_box w1 (.cells #[.func (.func 49) #[] #[]] 119)
  have m2 := heap_alloc_new w1 (.cells #[.func (.func 49) #[] #[]] 119)
  obtain ⟨w2, hw2⟩ : ∃ x, w1.alloc (.cells #[.func (.func 49) #[] #[]] 119) = x := ⟨_, rfl⟩
  rw [hw2] at q2 m2
  have m12 := (q2.block w.heap.size (by omega)).trans m1
  have HB := Lib.hid (below_next q1 q2)
  have HU : Hid (IsUpSlot w2 (.func (.func 88) #[] #[.pointer (some ⟨w.heap.size, 0, none⟩), .pointer (some ⟨w1.heap.size, 0, none⟩)])) := Lib.hid ⟨_, _, rfl, m12, m2⟩
  clear q1 m1 q2 m2 m12
  go_enter Tryz.func48, Tryz.ntmps48
  go_wp2
  go_ret
  rw [hs1] at HU
  exact ⟨_, rfl, HU.out, HB.out⟩
theorem rest0Slot_is (w : World) : Calls Tryz.prog 50 #[.func (.func 51) #[] #[]] w fun e w' => ∃ v, e = .returned v ∧ IsRestSlot w' v ∧ Below w.heap.size w w' := by
  have q1 := below_box w (.cells #[.func (.func 51) #[] #[]] 122)
  have m1 := heap_alloc_new w (.cells #[.func (.func 51) #[] #[]] 122)
  have H := Lib.hid (And.intro q1 m1)
  clear q1 m1
  go_enter Tryz.func50, Tryz.ntmps50
  go_wp2
  go_ret
  exact ⟨_, rfl, ⟨_, rfl, H.out.2⟩, H.out.1⟩
set_option maxHeartbeats 1600000 in
theorem upsSlot_is {w : World} (L : List (List FldD)) (hL : ∀ x ∈ L, IsFSlot x) (a : Option Addr) (cap : Nat) (hr : ReadsR w a 4 (L.map rowV)) (g1 g2 : Nat) (n1 : w.heap[g1]? = some (.cells #[.int .i64 10] 3 (0, 0))) (n2 : w.heap[g2]? = some (.cells #[.func (.func 49) #[] #[]] 119 (0, 0))) :
    Calls Tryz.prog 88 #[.slice a L.length cap, .pointer (some ⟨g1, 0, none⟩), .pointer (some ⟨g2, 0, none⟩)] w fun e w' => e = .returned (.bool (upSlot L)) ∧ Below w.heap.size w w' := by
  have hg1 : g1 < w.heap.size := (Array.getElem?_eq_some_iff.1 n1).1
  have hg2 : g2 < w.heap.size := (Array.getElem?_eq_some_iff.1 n2).1
  have c1 : w.cell? ⟨g1, 0, none⟩ = some (.int .i64 10) := (cell_of_row n1 0).trans rfl
  have c2 : w.cell? ⟨g2, 0, none⟩ = some (.func (.func 49) #[] #[]) := (cell_of_row n2 0).trans rfl
  obtain ⟨n, hn⟩ : ∃ n, L.length = n := ⟨_, rfl⟩
  have HN := Lib.hid hn
  have HL := Lib.hid hL
  have HR := Lib.hid hr
  rw [hn]
  clear hn hL hr n1 n2
  by_cases hm : n ≤ 10
  · have hmI : ¬ ((10 : Int) < (n : Int)) := by omega
    have HUP : Hid (upSlot L = L.all maySlot) := by show _ = _; unfold upSlot; rw [HN.out, decide_eq_true hm, Bool.true_and]
    have HC2 := Lib.hid c2
    clear c2
    go_enter Tryz.func88, Tryz.ntmps88
    go_wp2
    clear c1
    go_loopw [13] (fun i wr => ∃ k : Nat, k ≤ n ∧ i = .int .i64 k ∧ Hid (∀ x ∈ L.take k, maySlot x = true) ∧ Hid (Below w.heap.size w wr)) (fun i _ => n - (intOf i).toNat)
    case atStart => exact ⟨0, Nat.zero_le _, rfl, Lib.hid (by simp), Lib.hid (Below.refl _ _)⟩
    case round =>
      obtain ⟨k, hk, rfl, HA, HB⟩ := hrel
      by_cases hlt : k < n
      · obtain ⟨x, hx⟩ : ∃ x, L[k]? = some x := ⟨_, List.getElem?_eq_getElem (by rw [HN.out]; exact hlt)⟩
        obtain ⟨z0, z1, z2, z3, rfl, _⟩ := HL.out x (List.mem_of_getElem? hx)
        obtain ⟨b, off, rfl, hb, hc⟩ := (HR.out.below HB.out).row (show (L.map rowV)[k]? = some (rowV (fldSlot z0 z1 z2 z3)) by rw [List.getElem?_map, hx]; rfl)
        have hcell : ∀ (i : Nat) (u : Value), (rowV (fldSlot z0 z1 z2 z3))[i]? = some u → wr.cell? ⟨b, off + k * 4 + i, none⟩ = some u := fun i u hi => by
          have h1 := hc i u hi
          rwa [← Nat.add_assoc] at h1
        have c_0 : wr.cell? ⟨b, off + k * 4, none⟩ = some (.int .i64 z0) := hcell 0 _ rfl
        have c_1 : wr.cell? ⟨b, off + k * 4 + 1, none⟩ = some (.int .u32 z1) := hcell 1 _ rfl
        have c_2 : wr.cell? ⟨b, off + k * 4 + 2, none⟩ = some (.int .i64 z2) := hcell 2 _ rfl
        have c_3 : wr.cell? ⟨b, off + k * 4 + 3, none⟩ = some (.int .i64 z3) := hcell 3 _ rfl
        have c2 : wr.cell? ⟨g2, 0, none⟩ = some (.func (.func 49) #[] #[]) := (HB.out.cell (p := ⟨g2, 0, none⟩) hg2).trans HC2.out
        have hg2r : g2 < wr.heap.size := Nat.lt_of_lt_of_le hg2 HB.out.size
        have c2' : (wr.alloc (.cells #[.int .i64 z0, .int .u32 z1, .int .i64 z2, .int .i64 z3] 118)).cell? ⟨g2, 0, none⟩ = some (.func (.func 49) #[] #[]) := ((below_box wr (.cells #[.int .i64 z0, .int .u32 z1, .int .i64 z2, .int .i64 z3] 118)).cell (p := ⟨g2, 0, none⟩) hg2r).trans c2
        have hx0 : (0 : Int) ≤ (k : Int) := by omega
        have hx1 : (k : Int) < (n : Int) := by omega
        have HX := Lib.hid hx
        have HMAY := Lib.hid (maySlot_is z0 z1 z2 z3 (wr.alloc (.cells #[.int .i64 z0, .int .u32 z1, .int .i64 z2, .int .i64 z3] 118)))
        clear hc hcell hx hb
        cases hmy : maySlot (fldSlot z0 z1 z2 z3) with
        | true =>
          rw [hmy] at HMAY
          have HMY := Lib.hid hmy
          clear hmy
          go_wp2_with (go_at_call 49; refine HMAY.out.mono ?_; rintro e w5 ⟨rfl, b5⟩; have HB5 := Lib.hid (below_next (below_next HB.out (below_box wr (.cells #[.int .i64 z0, .int .u32 z1, .int .i64 z2, .int .i64 z3] 118))) b5); clear b5)
          go_roundw
          case rel =>
            refine ⟨k + 1, by omega, by go_num, Lib.hid fun x hx => ?_, HB5⟩
            rw [List.take_add_one, HX.out] at hx
            rcases List.mem_append.1 hx with hx | hx
            · exact HA.out x hx
            · obtain rfl : x = fldSlot z0 z1 z2 z3 := by simpa using hx
              exact HMY.out
          case measure => simp [intOf]; omega
        | false =>
          rw [hmy] at HMAY
          have HMY : Hid (upSlot L = false) := by
            show _ = _
            rw [HUP.out]
            exact List.all_eq_false.2 ⟨_, List.mem_of_getElem? HX.out, by rw [hmy]; decide⟩
          clear hmy
          go_wp2_with (go_at_call 49; refine HMAY.out.mono ?_; rintro e w5 ⟨rfl, b5⟩; have HB5 := Lib.hid (below_next (below_next HB.out (below_box wr (.cells #[.int .i64 z0, .int .u32 z1, .int .i64 z2, .int .i64 z3] 118))) b5); clear b5)
          go_ret
          exact ⟨by rw [HMY.out]; rfl, HB5.out⟩
      · obtain rfl : k = n := by omega
        have HMY : Hid (upSlot L = true) := by
          show _ = _
          have h := HA.out
          rw [List.take_of_length_le (by rw [HN.out]; exact Nat.le_refl _)] at h
          rw [HUP.out]
          exact List.all_eq_true.2 h
        go_wp2
        go_ret
        exact ⟨by rw [HMY.out]; rfl, HB.out⟩
  · have hmI : ((10 : Int) < (n : Int)) := by omega
    have HMY : Hid (upSlot L = false) := by show _ = _; unfold upSlot; rw [HN.out, decide_eq_false hm, Bool.false_and]
    clear c2
    go_enter Tryz.func88, Tryz.ntmps88
    go_wp2
    go_ret
    exact ⟨by rw [HMY.out]; rfl, Below.refl _ _⟩
theorem upSlot_len {L : List (List FldD)} (h : upSlot L = true) : L.length ≤ 10 := by
  unfold upSlot at h
  simp only [Bool.and_eq_true, decide_eq_true_eq] at h
  exact h.1
theorem wrSlot_len {L : List (List FldD)} (hL : ∀ x ∈ L, IsFSlot x) : (wrB L.flatten).length = L.length * 11 := by
  rw [wrB_length]
  exact widths_flat fun x hx => isFSlot_widths (hL x hx)
theorem writeSlot_length {L : List (List FldD)} (hL : ∀ x ∈ L, IsFSlot x) : (writeSlot L).1.length = 128 := by
  unfold writeSlot
  split
  · rfl
  · rename_i h
    have h1 : upSlot L = true := by cases hu : upSlot L; exact absurd (.inl hu) h; rfl
    have h2 := upSlot_len h1
    exact sealL_length (by rw [wrSlot_len hL]; omega)
set_option maxHeartbeats 1600000 in
theorem writeSlot_is {w : World} (L : List (List FldD)) (hL : ∀ x ∈ L, IsFSlot x) (a : Option Addr) (cap : Nat) (hr : ReadsR w a 4 (L.map rowV)) (vu vr : Value) (hu : IsUpSlot w vu) (hv : IsRestSlot w vr) :
    Calls Tryz.prog 87 #[.int .u8 4, .slice a L.length cap, vu, vr] w fun e w' => e = .returned (.tuple #[.agg (cells (writeSlot L).1), .int .i64 (writeSlot L).2]) ∧ Below w.heap.size w w' := by
  have hz := zero_sector
  have hbld := build_sector
  have b2 := below_box w (.cells (cells noughts) 31)
  have n2 := heap_alloc_new w (.cells (cells noughts) 31)
  have hu2 := hu.below b2
  have hv2 := hv.below b2
  have hr2 := hr.below b2
  obtain ⟨w2, hw2⟩ : ∃ w2, w.alloc (.cells (cells noughts) 31) = w2 := ⟨_, rfl⟩
  rw [hw2] at n2 b2 hu2 hv2 hr2
  have hs2 : w2.heap.size = w.heap.size + 1 := by rw [← hw2]; simp
  obtain ⟨g1, g2, rfl, u1, u2⟩ := hu2
  have HV := Lib.hid hv2
  have hv3 := hv2
  obtain ⟨g, rfl, _⟩ := hv2
  have HR := Lib.hid hr2
  have HUP := Lib.hid (upsSlot_is L hL a cap hr2 g1 g2 u1 u2)
  have HB := Lib.hid b2
  have HL := Lib.hid hL
  obtain ⟨n, hn⟩ : ∃ n, L.length = n := ⟨_, rfl⟩
  have HN := Lib.hid hn
  rw [hn] at HUP ⊢
  clear hu hv hr hr2 hv3 b2 u1 u2 hL hn
  go_enter Tryz.func87, Tryz.ntmps87
  go_wp2_with fail
  refine HUP.out.mono ?_
  rintro e w3 ⟨rfl, b3⟩
  have n2'' := (b3.block w.heap.size (by omega)).trans n2
  have HB3 : Hid (Below w.heap.size w w3) := HB.out.trans (b3.mono HB.out.size)
  have hs3 : w.heap.size + 1 ≤ w3.heap.size := by have := b3.size; omega
  have HR3 := Lib.hid (HR.out.below b3)
  have HV3 := Lib.hid (HV.out.below b3)
  clear b3 n2 HB hw2 hs2 HR HV
  cases hm : upSlot L with
  | false =>
    have hfin : writeSlot L = (noughts, 1) := if_pos (.inl hm)
    have HF := Lib.hid hfin
    clear hfin
    have hd := setRow_heap w3 w.heap.size _ (cells noughts) _ _ n2''
    have hb := below_setRow (g := w.heap.size) HB3.out (Nat.le_refl _) (cells noughts)
    go_wp2_with (refine wpList_store_sector rfl _ _ rfl w.heap.size noughts (by go_simp) (by go_simp) rfl _ _ n2'' rfl ?_)
    refine bodyPost_ret (results_sector rfl _ _ w.heap.size noughts _ _ rfl hd rfl) rfl ?_
    exact ⟨by rw [HF.out]; rfl, hb⟩
  | true =>
    have hmost := upSlot_len hm
    obtain ⟨g', hge, hgn⟩ := HV3.out
    obtain rfl : g = g' := by simpa using hge
    have hpw := pwriteSlot_is L HL.out (by omega) a cap g _ hgn HR3.out
    rw [HN.out] at hpw
    have HPW := Lib.hid hpw
    clear hpw hge hgn
    go_wp2_with fail
    refine HPW.out.mono ?_
    rintro e w4 ⟨b4, ⟨hf, rfl⟩ | ⟨hf, v, rfl, ho⟩⟩
    · have hfin : writeSlot L = (noughts, 1) := if_pos (.inr hf)
      have HF := Lib.hid hfin
      clear hfin
      have n4 := (b4.block w.heap.size (by omega)).trans n2''
      have hd := setRow_heap w4 w.heap.size _ (cells noughts) _ _ n4
      have hb := below_setRow (g := w.heap.size) (HB3.out.trans (b4.mono HB3.out.size)) (Nat.le_refl _) (cells noughts)
      clear b4 n2'' hf
      go_wp2_with (refine wpList_store_sector rfl _ _ rfl w.heap.size noughts (by go_simp) (by go_simp) rfl _ _ n4 rfl ?_)
      refine bodyPost_ret (results_sector rfl _ _ w.heap.size noughts _ _ rfl hd rfl) rfl ?_
      exact ⟨by rw [HF.out]; rfl, hb⟩
    · have hfin : writeSlot L = (sealL 4 (wrB L.flatten), 0) := if_neg (by rw [hm, hf]; simp)
      have HF := Lib.hid hfin
      clear hfin
      have n4 := (b4.block w.heap.size (by omega)).trans n2''
      obtain ⟨a4, cap4, rfl, hr4, _, _⟩ := ho.reads
      have HB4 : Hid (Below w.heap.size w w4) := HB3.out.trans (b4.mono HB3.out.size)
      have hs4 := Nat.le_trans hs3 b4.size
      have hlen : (wrB L.flatten).length ≤ 120 := by rw [wrSlot_len HL.out]; omega
      clear b4 n2'' ho HB3 hf
      go_wp2_with fail
      refine (make_ok 4 (wrB L.flatten) a4 _ cap4 w4 hr4 hlen (by decide) (by decide)).mono ?_
      rintro e w5 ⟨rfl, b5⟩
      have n5 := (b5.block w.heap.size (by omega)).trans n4
      have hsl := sealL_length (kind := 4) hlen
      have hd := setRow_heap w5 w.heap.size _ (cells (sealL 4 (wrB L.flatten))) _ _ n5
      have hb := below_setRow (g := w.heap.size) (HB4.out.trans (b5.mono HB4.out.size)) (Nat.le_refl _) (cells (sealL 4 (wrB L.flatten)))
      clear b5 n4 hr4 HB4
      go_wp2_with (refine wpList_store_sector rfl _ _ rfl w.heap.size (sealL 4 (wrB L.flatten)) (by go_simp) (by go_simp) hsl _ _ n5 rfl ?_)
      refine bodyPost_ret (results_sector rfl _ _ w.heap.size (sealL 4 (wrB L.flatten)) _ _ rfl hd hsl) rfl ?_
      exact ⟨by rw [HF.out]; rfl, hb⟩
end Go.Proofs.YtgakidimipipeaaGreat

namespace Go.Proofs.YtgakidimipipeaaGreat
open Go.RowKit Go.Sort
set_option linter.unusedVariables false
set_option linter.unusedSimpArgs false
set_option maxRecDepth 100000

noncomputable def readSlot (s : List Nat) : List (List FldD) × Int := if (writeSlot (itemsR zeroSlot (bO s))).2 = 0 ∧ (writeSlot (itemsR zeroSlot (bO s))).1 = s then (itemsR zeroSlot (bO s), 0) else ([], 21)
set_option maxHeartbeats 1600000 in
theorem readSlot_is {w : World} (s : List Nat) (hs : s.length = 128) (hb : Bytes s) (vu vr : Value) (hu : IsUpSlot w vu) (hv : IsRestSlot w vr) :
    Calls Tryz.prog 47 #[.int .u8 4, .agg (cells s), vu, vr] w (ReadsPost 118 4 w (readSlot s)) := by
  have hz := zero_sector
  have b1 := below_box w (.cells (cells s) 31)
  have n1 := heap_alloc_new w (.cells (cells s) 31)
  have hu1 := hu.below b1
  have hv1 := hv.below b1
  obtain ⟨w1, hw1⟩ : ∃ w1, w.alloc (.cells (cells s) 31) = w1 := ⟨_, rfl⟩
  have hs1 : w1.heap.size = w.heap.size + 1 := by rw [← hw1]; simp
  rw [hw1] at b1 n1 hu1 hv1
  have HU := Lib.hid hu1
  have HV := Lib.hid hv1
  have HB := Lib.hid b1
  have HC := Lib.hid (box_cells hs n1)
  have HITS := Lib.hid (itemsSlot_is (bO_bytes hb))
  have hblen := bO_length hs
  obtain ⟨gr, hvr, _⟩ := id hv
  subst hvr
  clear b1 hu hv hu1 hv1
  go_enter Tryz.func47, Tryz.ntmps47
  go_wp2_with (refine wpList_load_sector rfl _ rfl w.heap.size 0 s (by go_simp) hs HC.out ?_)
  refine (open_any2 s hs hb w1).mono ?_
  rintro e w3 ⟨b3, h3⟩
  have n1'' := (b3.block w.heap.size (by omega)).trans n1
  have HB3 : Hid (Below w.heap.size w w3) := HB.out.trans (b3.mono HB.out.size)
  have hs3 : w.heap.size + 1 ≤ w3.heap.size := by have := b3.size; omega
  have HU3 := Lib.hid (HU.out.below b3)
  have HV3 := Lib.hid (HV.out.below b3)
  obtain ⟨k, a3, cap3, er, he, hr3, hc3, hm3⟩ : ∃ (k : Nat) (a3 : Option Addr) (cap3 : Nat) (er : Int), e = .returned (.tuple #[.int .u8 k, .slice a3 (bO s).length cap3, .int .i64 er]) ∧ Reads w3 a3 (bO s).length (bO s) ∧ (bO s).length ≤ cap3 ∧ cap3 ≤ maxLen := by
    rcases h3 with ⟨ho, a, cap, he, hr, hc, hm⟩ | ⟨ho, he⟩
    · have e : bO s = bodyL s := if_pos ho
      rw [e]
      exact ⟨_, a, cap, _, he, hr, hc, hm⟩
    · have e : bO s = [] := if_neg (by rw [ho]; decide)
      rw [e]
      exact ⟨0, none, 0, 21, he, ⟨rfl, by intro x hx; simp at hx, .inl rfl⟩, Nat.le_refl _, by unfold maxLen; omega⟩
  subst he
  obtain ⟨g', hge, hgn⟩ := HV3.out
  obtain rfl : gr = g' := by simpa using hge
  have HPR := Lib.hid (preadSlot_is _ hgn hr3 hc3 hm3 (by omega))
  clear h3 b3 n1 HB HC hw1 hs1 HU HV hge hgn hr3
  go_wp2_with fail
  refine HPR.out.mono ?_
  rintro e w4 ⟨b4, v4, rfl, ho4⟩
  have HX : Hid (readSlot s = if (writeSlot (itemsR zeroSlot (bO s))).2 = 0 ∧ (writeSlot (itemsR zeroSlot (bO s))).1 = s then (itemsR zeroSlot (bO s), 0) else ([], 21)) := rfl
  obtain ⟨x, hx⟩ : ∃ x, itemsR zeroSlot (bO s) = x := ⟨_, rfl⟩
  rw [hx] at HX ho4 HITS
  obtain ⟨a4, c4, rfl, hr4, _⟩ := owned_list ho4
  have n14 := (b4.block w.heap.size (by omega)).trans n1''
  have HB4 : Hid (Below w.heap.size w w4) := HB3.out.trans (b4.mono HB3.out.size)
  have hs4 : w.heap.size + 1 ≤ w4.heap.size := Nat.le_trans hs3 b4.size
  have HO4 := Lib.hid (ho4.less (show w.heap.size ≤ w3.heap.size by omega))
  have HW := Lib.hid (writeSlot_is x HITS.out a4 c4 hr4 vu _ (HU3.out.below b4) (HV3.out.below b4))
  have hmk := writeSlot_length HITS.out
  obtain ⟨mk, hmke⟩ : ∃ mk, (writeSlot x).1 = mk := ⟨_, rfl⟩
  obtain ⟨er2, here⟩ : ∃ er2, (writeSlot x).2 = er2 := ⟨_, rfl⟩
  rw [hmke, here] at HX HW
  rw [hmke] at hmk
  obtain ⟨nx, hnx⟩ : ∃ nx, x.length = nx := ⟨_, rfl⟩
  have HNX := Lib.hid hnx
  rw [hnx] at HW HO4 ⊢
  clear n1'' HB3 hs3 b4 ho4 hr4 hx hc3 hm3 HPR HU3 HV3 hmke here hnx
  go_wp2_with fail
  refine HW.out.mono ?_
  rintro e w6 ⟨rfl, b6⟩
  have n16 := (b6.block w.heap.size (by omega)).trans n14
  have HB6 : Hid (Below w.heap.size w w6) := HB4.out.trans (b6.mono HB4.out.size)
  have hs6 : w.heap.size + 1 ≤ w6.heap.size := by have := b6.size; omega
  have ho6 := HO4.out.below b6
  have nn := heap_alloc_new w6 (.cells (cells noughts) 31)
  have b7 := below_box w6 (.cells (cells mk) 31)
  have n7 := heap_alloc_new w6 (.cells (cells mk) 31)
  have e7 := World.setRow_alloc_new w6 (cells noughts) (cells mk) 31
  have HO7 := Lib.hid (ho6.below b7)
  obtain ⟨w7, hw7⟩ : ∃ w7, w6.alloc (.cells (cells mk) 31) = w7 := ⟨_, rfl⟩
  rw [hw7] at b7 n7 e7 HO7
  have n17 := (b7.block w.heap.size (by omega)).trans n16
  have HB7 : Hid (Below w.heap.size w w7) := HB6.out.trans (b7.mono HB6.out.size)
  obtain ⟨m2, hm2⟩ : ∃ m2, w6.heap.size = m2 := ⟨_, rfl⟩
  rw [hm2] at n7 e7 nn hs6
  have HC7 := Lib.hid (block_cells hmk n7)
  have HCs := Lib.hid (block_cells hs n17)
  have hneq := run_neq_sector mk s hmk hs
  clear n16 HB6 b6 b7 hw7 n14 HB4 hs4 HO4 ho6 HW n7 n17
  by_cases her : er2 = 0
  · subst her
    by_cases hms : mk = s
    · have hfin : readSlot s = (x, 0) := HX.out.trans (if_pos ⟨rfl, hms⟩)
      have HF := Lib.hid hfin
      rw [decide_eq_true hms, Bool.not_true] at hneq
      clear hfin hms
      go_wp2_with (first
        | (refine wpList_store_sector rfl _ _ rfl m2 mk rfl rfl hmk _ _ nn rfl ?_; rw [e7])
        | refine wpList_load_sector_want rfl _ rfl m2 0 mk rfl hmk HC7.out ?_
        | refine wpList_load_sector_want rfl _ rfl w.heap.size 0 s rfl hs HCs.out ?_)
      go_ret2
      unfold ReadsPost
      rw [HF.out]
      refine ⟨HB7.out, a4, c4, ?_, ?_⟩
      · show _ = Ending.returned (.tuple #[.slice a4 x.length c4, .int .i64 0])
        rw [HNX.out]; rfl
      · show OwnsR' _ _ _ _ (.slice a4 x.length c4) (x.map rowV)
        rw [HNX.out]; exact HO7.out
    · have hfin : readSlot s = ([], 21) := HX.out.trans (if_neg (fun h => hms h.2))
      have HF := Lib.hid hfin
      rw [decide_eq_false hms, Bool.not_false] at hneq
      clear hfin hms
      go_wp2_with (first
        | (refine wpList_store_sector rfl _ _ rfl m2 mk rfl rfl hmk _ _ nn rfl ?_; rw [e7])
        | refine wpList_load_sector_want rfl _ rfl m2 0 mk rfl hmk HC7.out ?_
        | refine wpList_load_sector_want rfl _ rfl w.heap.size 0 s rfl hs HCs.out ?_)
      go_ret2
      unfold ReadsPost
      rw [HF.out]
      exact ⟨HB7.out, none, 0, rfl, OwnsR'.nil _ _ _ _⟩
  · have hne0 : (er2 == 0) = false := by simpa using her
    have hfin : readSlot s = ([], 21) := HX.out.trans (if_neg (fun h => her h.1))
    have HF := Lib.hid hfin
    clear hfin
    go_wp2_with (first
      | (refine wpList_store_sector rfl _ _ rfl m2 mk rfl rfl hmk _ _ nn rfl ?_; rw [e7])
      | refine wpList_load_sector_want rfl _ rfl m2 0 mk rfl hmk HC7.out ?_
      | refine wpList_load_sector_want rfl _ rfl w.heap.size 0 s rfl hs HCs.out ?_)
    go_ret2
    unfold ReadsPost
    rw [HF.out]
    exact ⟨HB7.out, none, 0, rfl, OwnsR'.nil _ _ _ _⟩
end Go.Proofs.YtgakidimipipeaaGreat

namespace Go.Proofs.YtgakidimipipeaaGreat
open Go.RowKit Go.Sort
set_option linter.unusedVariables false
set_option linter.unusedSimpArgs false
set_option maxRecDepth 100000

set_option maxHeartbeats 3200000 in
theorem readSlots_is {w : World} (s : List Nat) (hs : s.length = 128) (hb : Bytes s) :
    Calls Tryz.prog 20 #[.agg (cells s)] w (ReadsPost 118 4 w (readSlot s)) := by
  have b1 := below_box w (.cells (cells s) 31)
  have n1 := heap_alloc_new w (.cells (cells s) 31)
  obtain ⟨w1, hw1⟩ : ∃ w1, w.alloc (.cells (cells s) 31) = w1 := ⟨_, rfl⟩
  have hs1 : w1.heap.size = w.heap.size + 1 := by rw [← hw1]; simp
  rw [hw1] at b1 n1
  have HR : Hid (w1.rangeAt w.heap.size 0 (s.map byteV)) := Lib.hid (by have := row_range n1; simpa [cells] using this)
  have hgl : w.heap.size < w1.heap.size := by omega
  have hu := row_sector
  have hsz : (Tryz.prog.info? 31).map (·.size) = some (s.map byteV).length := by rw [size_sector, List.length_map, hs]
  have hl8 : (s.map byteV).length = 128 := by rw [List.length_map, hs]
  have hone := byteV_oneCell s
  have HB := Lib.hid b1
  have HREAD := Lib.hid (fun (W : World) (hW : Below w1.heap.size w1 W) (vu vr : Value) (hu : IsUpSlot W vu) (hv : IsRestSlot W vr) => (readSlot_is s hs hb vu vr hu hv).mono fun e w' k => And.intro (hW.trans (k.1.mono hW.size)) (readsPost_up (below_next b1 hW) k))
  obtain ⟨⟨rl, re⟩, hre⟩ : ∃ r, readSlot s = r := ⟨_, rfl⟩
  obtain ⟨rn, hrn⟩ : ∃ n, rl.length = n := ⟨_, rfl⟩
  have HRN := Lib.hid hrn
  rw [hre] at HREAD ⊢
  have H1 := (Below.refl w1.heap.size w1).drew
  clear b1 n1 hre hrn
  go_enter Tryz.func20, Tryz.ntmps20
  go_wp2_with fail
  go_region_held3 (fun W => W.rangeAt w.heap.size 0 (s.map byteV) ∧ Below w1.heap.size w1 W) (first | exact ⟨range_bel H1 hgl HR.out, H1⟩ | exact ⟨range_bel k5 hgl HR.out, k5⟩ | exact ⟨range_bel k6 hgl HR.out, k6⟩ | exact ⟨range_bel k7 hgl HR.out, k7⟩)
    ((first
      | (go_at_call 48; refine (uptoSlot_is _).mono ?_; rintro e w5 ⟨vu, rfl, hU, b5⟩; first | (have k5 := k6.trans (b5.mono k6.size); have hUr := hU; have hVr := hV.below b5) | (have k5 := H1.trans (b5.mono H1.size)); obtain ⟨u1, u2, rfl, _, _⟩ := id hU)
      | (go_at_call 50; refine (rest0Slot_is _).mono ?_; rintro e w6 ⟨vr, rfl, hV, b6⟩; first | (have k6 := k5.trans (b6.mono k5.size); have hUr := hU.below b6; have hVr := hV) | (have k6 := H1.trans (b6.mono H1.size)); obtain ⟨u3, rfl, _⟩ := id hV)
      | (go_at_call 47; refine (HREAD.out _ (by first | exact k6 | exact k5) _ _ hUr hVr).mono ?_; rintro e w7 ⟨b7, q7⟩; have k7 := b7; have HQ := Lib.hid q7; obtain ⟨_, a7, c7, rfl, o7⟩ := id q7; clear q7 o7; rw [show ((rl, re) : List (List FldD) × Int).1.length = rn from HRN.out])))
  all_goals
    go_wp2
    go_ret2
    have hq := HQ.out
    rw [show ((rl, re) : List (List FldD) × Int).1.length = rn from HRN.out] at hq
    exact hq
end Go.Proofs.YtgakidimipipeaaGreat

namespace Go.Proofs.YtgakidimipipeaaGreat
open Go.RowKit Go.Sort
set_option linter.unusedVariables false
set_option linter.unusedSimpArgs false
set_option maxRecDepth 100000

def fldUse (z0 z1 z2 : Int) : List FldD := [⟨.i64, 2, z0⟩, ⟨.i64, 1, z1⟩, ⟨.u32, 4, z2⟩]
def IsFUse (l : List FldD) : Prop := ∃ z0 z1 z2 : Int, l = fldUse z0 z1 z2 ∧ I64 z0 ∧ I64 z1 ∧ (0 ≤ z2 ∧ z2 < 4294967296)
def zeroUse : List FldD := fldUse 0 0 0
theorem zeroUse_is : IsFUse zeroUse := ⟨0, 0, 0, rfl, by unfold I64; omega, by unfold I64; omega, by omega⟩
theorem isFUse_length {l : List FldD} (h : IsFUse l) : l.length = 3 := by obtain ⟨z0, z1, z2, rfl, _⟩ := h; rfl
theorem isFUse_widths {l : List FldD} (h : IsFUse l) : widths l = 7 := by obtain ⟨z0, z1, z2, rfl, _⟩ := h; rfl
set_option maxHeartbeats 1600000 in
theorem layUse_is {l : List FldD} {gx : Nat} {w0 w : World} {pv : Value} {S : PS} (hl : IsFUse l) (h : LayAt l gx 127 w0 pv S 0 w) :
    Calls Tryz.prog 56 #[pv, .pointer (some ⟨gx, 0, none⟩)] w fun e w' => e = .returned (.tuple #[]) ∧ LayAt l gx 127 w0 pv S 3 w' := by
  obtain ⟨z0, z1, z2, rfl, k0, k1, k2⟩ := hl
  have H := Lib.hid h
  clear h
  go_enter Tryz.func56, Tryz.ntmps56
  go_wp2_with fail
  refine (lay_i64 (q := 2) H.out rfl k0 (by decide) (by decide)).mono ?_
  rintro e w1 ⟨rfl, h1⟩
  have H1 := Lib.hid h1
  clear h1 H
  go_wp2_with fail
  refine (lay_i64 (q := 1) H1.out rfl k1 (by decide) (by decide)).mono ?_
  rintro e w2 ⟨rfl, h2⟩
  have H2 := Lib.hid h2
  clear h2 H1
  go_wp2_with fail
  refine (lay_u32 (q := 4) H2.out rfl k2 (by decide) (by decide)).mono ?_
  rintro e w3 ⟨rfl, h3⟩
  have H3 := Lib.hid h3
  clear h3 H2
  go_wp2
  go_end0
  exact ⟨rfl, H3.out⟩
theorem infoUse : (Tryz.prog.info? 127).map (fun i => (i.zero, i.size, i.bytes)) = some (some (.agg #[.int .i64 0, .int .i64 0, .int .u32 0]), 3, 24) := by kernel_rfl
set_option maxHeartbeats 1600000 in
theorem eachUse_is {w0 : World} {pv : Value} {S0 : PS} (L : List (List FldD)) (hL : ∀ x ∈ L, IsFUse x) (a : Option Addr) (cap : Nat) (hr : ReadsR w0 a 3 (L.map rowV)) (hap : L ≠ [] → ∀ b off, a = some ⟨b, off, none⟩ → b < w0.heap.size ∧ Apart w0 pv S0 b) (hport : IsPort w0 pv S0)
    (K : Nat) (hK : K ≤ 2000) (hLl : L.length ≤ 2000) (hfit : ∀ i, i < K → (runS zeroUse L S0 i).fits 7) (gm : Nat) (caps : Array Value) (eg : ∀ args w, (callFunc gm args).run Tryz.prog w = .ok (.enter gm args) w)
    (hmore : ∀ (i : Nat) (W : World) (v : Value), i ≤ K → EachAt 127 3 w0 pv S0 W (runS zeroUse L S0 i) v (runD zeroUse L S0 i) → Calls Tryz.prog gm (#[.int .i64 (i : Int)] ++ caps) W fun e w' => e = .returned (.bool (decide (i < K))) ∧ W = w') :
    Calls Tryz.prog 96 #[pv, .slice a L.length cap, .func (.func gm) #[] caps, .func (.func 56) #[] #[]] w0 fun e w' => ∃ v, e = .returned v ∧ EachAt 127 3 w0 pv S0 w' (runS zeroUse L S0 K) v (runD zeroUse L S0 K) := by
  obtain ⟨n, hn⟩ : ∃ n, L.length = n := ⟨_, rfl⟩
  have HN := Lib.hid hn
  have HST := Lib.hid (each_start 127 3 hport)
  have HL := Lib.hid hL
  have HR := Lib.hid hr
  have HAP := Lib.hid hap
  have HF := Lib.hid hfit
  have HM := Lib.hid hmore
  rw [hn] at hLl ⊢
  clear hn hL hr hap hfit hmore hport
  go_enter Tryz.func96, Tryz.ntmps96
  go_wp2_with fail
  go_loopw [9, 10] (fun v i wr => ∃ k : Nat, k ≤ K ∧ i = .int .i64 k ∧ Hid (EachAt 127 3 w0 pv S0 wr (runS zeroUse L S0 k) v (runD zeroUse L S0 k))) (fun _ i _ => K - (intOf i).toNat)
  case atStart => exact ⟨0, Nat.zero_le _, rfl, HST.out⟩
  case round =>
    rename_i v9 _ _
    obtain ⟨k, hk, rfl, HE⟩ := hrel
    have hm := HM.out k wr _ hk HE.out
    by_cases hlt : k < K
    · have hd : decide (k < K) = true := decide_eq_true hlt
      rw [hd] at hm
      have HMK := Lib.hid hm
      have hfk := HF.out k hlt
      obtain ⟨S, hS⟩ : ∃ S, runS zeroUse L S0 k = S := ⟨_, rfl⟩
      obtain ⟨Dn, hD⟩ : ∃ Dn, runD zeroUse L S0 k = Dn := ⟨_, rfl⟩
      have hDl : Dn.length = k := by rw [← hD]; exact runD_length _ _ _ _
      have HS : Hid (runS zeroUse L S0 (k + 1) = stS S (itemAt zeroUse L k) ∧ runD zeroUse L S0 (k + 1) = Dn ++ [stO S (itemAt zeroUse L k)]) := by show _ ∧ _; rw [← hS, ← hD]; exact ⟨rfl, rfl⟩
      rw [hS] at hfk
      rw [hS, hD] at HE
      have HDL := Lib.hid hDl
      clear hm hd hS hD hDl
      have hx0 : (0 : Int) ≤ (k : Int) := by omega
      by_cases hil : k < n
      · obtain ⟨x, hx⟩ : ∃ x, L[k]? = some x := ⟨_, List.getElem?_eq_getElem (by rw [HN.out]; exact hil)⟩
        have hit : itemAt zeroUse L k = x := itemAt_in hx
        rw [hit] at HS
        have hLne : L ≠ [] := by rintro rfl; simp at hx
        have hxi := HL.out x (List.mem_of_getElem? hx)
        have hxw := isFUse_widths hxi
        have HXI := Lib.hid hxi
        obtain ⟨z0, z1, z2, rfl, k0, k1, k2⟩ := hxi
        obtain ⟨b, off, rfl, hb, hc⟩ := HR.out.row (show (L.map rowV)[k]? = some (rowV (fldUse z0 z1 z2)) by rw [List.getElem?_map, hx]; rfl)
        obtain ⟨_, hapb⟩ := HAP.out hLne b off rfl
        have hcell : ∀ (i : Nat) (u : Value), (rowV (fldUse z0 z1 z2))[i]? = some u → (wr.alloc (.cells #[.int .i64 0, .int .i64 0, .int .u32 0] 127)).cell? ⟨b, off + k * 3 + i, none⟩ = some u := fun i u hi => by
          have h1 := hc i u hi
          rw [← Nat.add_assoc] at h1
          refine ((below_box wr (.cells #[.int .i64 0, .int .i64 0, .int .u32 0] 127)).cell (p := ⟨b, off + k * 3 + i, none⟩) (Nat.lt_of_lt_of_le hb HE.out.went.size)).trans ?_
          exact (World.cell?_of_block (a := ⟨b, off + k * 3 + i, none⟩) (HE.out.went.block b hb hapb (by omega))).trans h1
        have c0 : (wr.alloc (.cells #[.int .i64 0, .int .i64 0, .int .u32 0] 127)).cell? ⟨b, off + k * 3, none⟩ = some (.int .i64 z0) := hcell 0 _ rfl
        have c1 : (wr.alloc (.cells #[.int .i64 0, .int .i64 0, .int .u32 0] 127)).cell? ⟨b, off + k * 3 + 1, none⟩ = some (.int .i64 z1) := hcell 1 _ rfl
        have c2 : (wr.alloc (.cells #[.int .i64 0, .int .i64 0, .int .u32 0] 127)).cell? ⟨b, off + k * 3 + 2, none⟩ = some (.int .u32 z2) := hcell 2 _ rfl
        have HLAY : Hid (LayAt (fldUse z0 z1 z2) wr.heap.size 127 (wr.alloc (.cells #[.int .i64 z0, .int .i64 z1, .int .u32 z2] 127)) pv S 0 (wr.alloc (.cells #[.int .i64 z0, .int .i64 z1, .int .u32 z2] 127))) := Lib.hid (HE.out.lay (fldUse z0 z1 z2) (by rw [hxw]; exact hfk))
        have hx1 : (k : Int) < (n : Int) := by omega
        have HIT := Lib.hid hit
        clear hc hcell hx hit hLne hapb hb hfk hxw hil
        go_wp2_with (go_at_fn gm; refine HMK.out.mono ?_; rintro e w1 ⟨rfl, rfl⟩)
        refine (layUse_is HXI.out HLAY.out).mono ?_
        rintro e w2 ⟨rfl, h2⟩
        obtain ⟨E2, row2, sz2⟩ := HE.out.laid (isFUse_length HXI.out) h2
        obtain ⟨y0, y1, y2, hout⟩ : ∃ y0 y1 y2, stO S (fldUse z0 z1 z2) = fldUse y0 y1 y2 := ⟨_, _, _, rfl⟩
        rw [hout] at row2 HS
        have e0 : w2.cell? ⟨wr.heap.size, 0, none⟩ = some (.int .i64 y0) := (cell_of_row row2 0).trans rfl
        have e1 : w2.cell? ⟨wr.heap.size, 1, none⟩ = some (.int .i64 y1) := (cell_of_row row2 1).trans rfl
        have e2 : w2.cell? ⟨wr.heap.size, 2, none⟩ = some (.int .u32 y2) := (cell_of_row row2 2).trans rfl
        have HE2 := Lib.hid (E2.alloc (.cells #[.int .i64 y0, .int .i64 y1, .int .u32 y2] 127))
        have n3 : (w2.alloc (.cells #[.int .i64 y0, .int .i64 y1, .int .u32 y2] 127)).heap[w2.heap.size]? = some (.cells (cellsF (fldUse y0 y1 y2)) 127 (0, 0)) := heap_alloc_new w2 _
        have HN3 := Lib.hid n3
        have HSZ : Hid (w0.heap.size ≤ w2.heap.size) := Lib.hid E2.went.size
        have HDL2 : Hid ((Dn.map rowV).length = k) := by show _ = _; rw [List.length_map]; exact HDL.out
        clear h2 E2 hout row2 sz2 n3
        go_wp2_with (at_builtin; refine wpList_append_row_at rfl _ _ _ rfl w0.heap.size 127 _ 3 24 Tryz.underlying68 infoUse rfl (by decide) _ (Dn.map rowV) rfl HE2.out.own w2.heap.size 1 (rowV (fldUse y0 y1 y2)) rfl rfl (fun j u hj => ((cell_of_row HN3.out j).trans (cellsF_row _ j)).trans hj) (fun u hu => by simp only [fldUse, rowV, List.map_cons, List.map_nil, List.mem_cons, List.not_mem_nil, or_false] at hu; rcases hu with rfl | rfl | rfl <;> rfl) (by rw [HDL2.out]; omega) (by rw [HDL2.out]; unfold maxLen; omega) (by simp; have := HSZ.out; omega) ?_; intro v4 w4 o4 g4 l4; have E4 := Lib.hid (HE2.out.next o4 g4 l4); clear o4 g4 l4)
        go_roundw
        case rel =>
          refine ⟨k + 1, by omega, by go_num, ?_⟩
          show EachAt _ _ _ _ _ _ _ _ _
          rw [HS.out.1, HS.out.2]
          exact E4.out
        case measure => simp [intOf]; omega
      · have hit : itemAt zeroUse L k = zeroUse := itemAt_out (by rw [HN.out]; omega)
        rw [hit] at HS
        have HXI := Lib.hid zeroUse_is
        have HLAY : Hid (LayAt zeroUse wr.heap.size 127 (wr.alloc (.cells #[.int .i64 0, .int .i64 0, .int .u32 0] 127)) pv S 0 (wr.alloc (.cells #[.int .i64 0, .int .i64 0, .int .u32 0] 127))) := Lib.hid (HE.out.lay zeroUse (by rw [isFUse_widths zeroUse_is]; exact hfk))
        have hx1 : ¬ (k : Int) < (n : Int) := by omega
        clear hit hfk hil
        go_wp2_with (go_at_fn gm; refine HMK.out.mono ?_; rintro e w1 ⟨rfl, rfl⟩)
        refine (layUse_is HXI.out HLAY.out).mono ?_
        rintro e w2 ⟨rfl, h2⟩
        obtain ⟨E2, row2, sz2⟩ := HE.out.laid (isFUse_length HXI.out) h2
        obtain ⟨y0, y1, y2, hout⟩ : ∃ y0 y1 y2, stO S zeroUse = fldUse y0 y1 y2 := ⟨_, _, _, rfl⟩
        rw [hout] at row2 HS
        have e0 : w2.cell? ⟨wr.heap.size, 0, none⟩ = some (.int .i64 y0) := (cell_of_row row2 0).trans rfl
        have e1 : w2.cell? ⟨wr.heap.size, 1, none⟩ = some (.int .i64 y1) := (cell_of_row row2 1).trans rfl
        have e2 : w2.cell? ⟨wr.heap.size, 2, none⟩ = some (.int .u32 y2) := (cell_of_row row2 2).trans rfl
        have HE2 := Lib.hid (E2.alloc (.cells #[.int .i64 y0, .int .i64 y1, .int .u32 y2] 127))
        have n3 : (w2.alloc (.cells #[.int .i64 y0, .int .i64 y1, .int .u32 y2] 127)).heap[w2.heap.size]? = some (.cells (cellsF (fldUse y0 y1 y2)) 127 (0, 0)) := heap_alloc_new w2 _
        have HN3 := Lib.hid n3
        have HSZ : Hid (w0.heap.size ≤ w2.heap.size) := Lib.hid E2.went.size
        have HDL2 : Hid ((Dn.map rowV).length = k) := by show _ = _; rw [List.length_map]; exact HDL.out
        clear h2 E2 hout row2 sz2 n3
        go_wp2_with (at_builtin; refine wpList_append_row_at rfl _ _ _ rfl w0.heap.size 127 _ 3 24 Tryz.underlying68 infoUse rfl (by decide) _ (Dn.map rowV) rfl HE2.out.own w2.heap.size 1 (rowV (fldUse y0 y1 y2)) rfl rfl (fun j u hj => ((cell_of_row HN3.out j).trans (cellsF_row _ j)).trans hj) (fun u hu => by simp only [fldUse, rowV, List.map_cons, List.map_nil, List.mem_cons, List.not_mem_nil, or_false] at hu; rcases hu with rfl | rfl | rfl <;> rfl) (by rw [HDL2.out]; omega) (by rw [HDL2.out]; unfold maxLen; omega) (by simp; have := HSZ.out; omega) ?_; intro v4 w4 o4 g4 l4; have E4 := Lib.hid (HE2.out.next o4 g4 l4); clear o4 g4 l4)
        go_roundw
        case rel =>
          refine ⟨k + 1, by omega, by go_num, ?_⟩
          show EachAt _ _ _ _ _ _ _ _ _
          rw [HS.out.1, HS.out.2]
          exact E4.out
        case measure => simp [intOf]; omega
    · have hd : decide (k < K) = false := decide_eq_false hlt
      rw [hd] at hm
      obtain rfl : k = K := by omega
      have HMK := Lib.hid hm
      clear hm hd
      go_wp2_with (go_at_fn gm; refine HMK.out.mono ?_; rintro e w1 ⟨rfl, rfl⟩)
      go_ret
      exact ⟨_, rfl, HE.out⟩
end Go.Proofs.YtgakidimipipeaaGreat
