/- The laying of a Summary: the walk. -/
import Derived.Test.YtplkglepbedhoaaGhflemkib
namespace Go.Proofs.Ytplkglepbedhoaa
open Go.RowKit Go.Sort
set_option linter.unusedVariables false
set_option linter.unusedSimpArgs false
set_option maxRecDepth 100000

theorem AtSum.fin {gx : Nat} {w0 w W : World} {pv v : Value} {S0 S S' : PS} {cs : Array Value} {dn : List (List FldD)} (h : AtSum gx w0 pv S0 cs w S) (k : EachAt 163 4 w pv S W S' v dn) :
    W.heap[gx]? = some (.cells cs 48 (0, 0)) ∧ (W.setCell ⟨gx, 5, none⟩ v).heap[gx]? = some (.cells (cs.setIfInBounds 5 v) 48 (0, 0)) ∧ OwnsR' w0.heap.size (W.setCell ⟨gx, 5, none⟩ v) 163 4 v (dn.map rowV) ∧ Passed gx w0 pv S0 (W.setCell ⟨gx, 5, none⟩ v) S' := by
  have hgw := Nat.lt_of_lt_of_le h.size h.passed.size
  have row : W.heap[gx]? = some (.cells cs 48 (0, 0)) := (k.went.block gx hgw h.here.apart (by omega)).trans h.row
  have ha := k.went.away gx hgw h.here
  refine ⟨row, heap_setCell_same W gx 5 _ _ _ row, (owns_same (k.own.less h.passed.size) fun j hj => Below.heap_setCell _ _ _ _ ?_), passed_grown (passed_more h.passed k.went h.passed.size) (grown_cell _ _ _ _) (fun k hk => by cases hk; exact ha) (fun k hk => by cases hk; exact .inl rfl)⟩
  have := (k.own.lt j hj).1
  show j ≠ gx
  omega
theorem PS.fits_le {S : PS} {j k : Nat} (h : S.fits k) (hj : j ≤ k) : S.fits j := by
  cases S with
  | wr l f => unfold PS.fits at h ⊢; dsimp only at h ⊢; omega
  | rd b => trivial

set_option maxHeartbeats 1600000 in
theorem laySummary_is {w : World} {pv : Value} {S : PS} {gx : Nat} {seq first time cap : Nat} {commit : Bool} {next : Int} {L : List (List FldD)} {a : Option Addr} {K : Nat}
    (hport : IsPort w pv S) (hx : w.heap[gx]? = some (.cells #[.int .u64 seq, .int .u64 first, .bool commit, .int .i64 next, .int .u32 time, .slice a L.length cap] 48 (0, 0))) (hax : Away w pv S gx)
    (k0 : seq < 18446744073709551616) (k1 : first < 18446744073709551616) (k3 : I64 next) (k4 : time < 4294967296) (hL : ∀ x ∈ L, IsFEntry x) (hLl : L.length ≤ 2000) (hr : ReadsR w a 4 (L.map rowV))
    (hap : L ≠ [] → ∀ b off, a = some ⟨b, off, none⟩ → b < w.heap.size ∧ Apart w pv S b ∧ b ≠ gx) (hf : S.fits 24)
    (hKn : (((S.next 8 seq).next 8 first).next 1 (u64of (flagN commit))).numI 1 (L.length : Int) = (K : Nat)) (hK : K ≤ 2000) (hfit : ∀ i, i < K → (runS zeroEntry L (sumS S seq first commit L.length next time) i).fits 9) :
    Calls Try.prog 82 #[pv, .pointer (some ⟨gx, 0, none⟩)] w (SumPost gx w pv S seq first commit next time L K) := by
  obtain ⟨ti, vi, rfl⟩ := port_iface hport
  have H0 := Lib.hid (AtSum.start hport hx hax)
  have f1 : (S.next 8 seq).fits 16 := PS.fits_next (k := 16) hf
  have f2 : ((S.next 8 seq).next 8 first).fits 8 := PS.fits_next (k := 8) f1
  have f3 : (((S.next 8 seq).next 8 first).next 1 (u64of (flagN commit))).fits 7 := PS.fits_next (k := 7) f2
  have f4 : ((((S.next 8 seq).next 8 first).next 1 (u64of (flagN commit))).next 1 (u64of (L.length : Int))).fits 6 := PS.fits_next (k := 6) f3
  have f5 : (((((S.next 8 seq).next 8 first).next 1 (u64of (flagN commit))).next 1 (u64of (L.length : Int))).next 2 (u64of next)).fits 4 := PS.fits_next (k := 4) f4
  have HL := Lib.hid hL
  have HR := Lib.hid hr
  have HAP := Lib.hid hap
  have HFIT := Lib.hid hfit
  have HK := Lib.hid hKn
  have hLi : I64 (L.length : Int) := by unfold I64; omega
  have hx0 := (Array.getElem?_eq_some_iff.1 hx).1
  clear hport hx hax hL hr hap hfit hKn
  go_enter Try.func82, Try.ntmps82
  go_wp2_with fail
  refine (H0.out.u64 (m := 0) (q := 8) (by decide) (by decide) (PS.fits_le hf (by decide)) rfl k0).mono ?_
  rintro e w1 ⟨rfl, h1⟩
  have H1 := Lib.hid h1
  clear h1
  go_wp2_with fail
  refine (H1.out.u64 (m := 1) (q := 8) (by decide) (by decide) (PS.fits_le f1 (by decide)) rfl k1).mono ?_
  rintro e w2 ⟨rfl, h2⟩
  have H2 := Lib.hid h2
  clear h2 H1
  go_wp2_with fail
  refine (H2.out.flag (m := 2) (PS.fits_le f2 (by decide)) rfl).mono ?_
  rintro e w3 ⟨rfl, h3⟩
  have c3 : w3.cell? ⟨gx, 5, none⟩ = some (.slice a L.length cap) := (cell_of_row h3.row 5).trans rfl
  have H3 := Lib.hid h3
  clear h3 H2
  go_wp2_with fail
  refine (H3.out.count (PS.fits_le f3 (by decide)) hLi).mono ?_
  rintro e w5 ⟨rfl, h5, n5⟩
  have H5 := Lib.hid h5
  have N5 := Lib.hid n5
  clear h5 n5 c3
  go_wp2_with fail
  refine (H5.out.i64 (m := 3) (q := 2) (by decide) (by decide) (PS.fits_le f4 (by decide)) rfl k3).mono ?_
  rintro e w6 ⟨rfl, h6, p6⟩
  have H6 := Lib.hid h6
  have N6 := Lib.hid (N5.out.passed hx0 p6)
  clear h6 p6 H5 N5
  go_wp2_with fail
  refine (H6.out.u32 (m := 4) (q := 4) (by decide) (by decide) (PS.fits_le f5 (by decide)) rfl k4).mono ?_
  rintro e w7 ⟨rfl, h7, p7⟩
  have H7 := Lib.hid h7
  have N7 := Lib.hid (N6.out.passed hx0 p7)
  have c7 : w7.cell? ⟨gx, 5, none⟩ = some (.slice a L.length cap) := (cell_of_row h7.row 5).trans rfl
  have h7n := h7
  have n7 := N7.out
  rw [HK.out] at n7
  have hg7 : w3.heap.size < w7.heap.size := (Array.getElem?_eq_some_iff.1 n7.row).1
  have hrd : ReadsR w7 a 4 (L.map rowV) := readsR_passed HR.out h7n.passed (fun hl b off e => HAP.out (by rintro rfl; exact hl rfl) b off e)
  have hap7 : L ≠ [] → ∀ b off, a = some ⟨b, off, none⟩ → b < w7.heap.size ∧ Apart w7 (.iface ti vi) _ b := fun hl b off e => by
    obtain ⟨q1, q2, q3⟩ := HAP.out hl b off e
    exact ⟨Nat.lt_of_lt_of_le q1 h7n.passed.size, h7n.passed.apart b q1 q2⟩
  have HE := Lib.hid (eachEntry_is L HL.out a cap hrd hap7 h7n.passed.port K hK hLl HFIT.out 165 #[.pointer (some ⟨w3.heap.size, 0, none⟩)] enters_moreSum (fun i W v hi h => moreSum_is ((cell_of_row ((h.went.block w3.heap.size hg7 n7.away.apart (by omega)).trans n7.row) 0).trans rfl) i))
  clear h7 p7 H6 N6 N7 n7 hrd hap7 h7n hg7 H3 H0 HR HAP HFIT HL f1 f2 f3 f4 f5 hf
  go_wp2_with fail
  refine HE.out.mono ?_
  rintro e w8 ⟨v8, rfl, h8⟩
  obtain ⟨a8, n8, q8, rfl⟩ := each_shape h8
  obtain ⟨r8, fin⟩ := AtSum.fin H7.out h8
  have c8 : w8.cell? ⟨gx, 5, none⟩ = some (.slice a L.length cap) := (cell_of_row r8 5).trans rfl
  have g8 := frozen_of_row w8 gx 5 _ _ r8
  have FIN := Lib.hid fin
  clear h8 r8 fin c7 HE H7
  go_wp2_with fail
  go_end0
  exact ⟨rfl, _, FIN.out.1, FIN.out.2.1, FIN.out.2.2⟩
end Go.Proofs.Ytplkglepbedhoaa
