/- At most so many Slots, each of which may be (codec.upTo); a sealed sector of them (codec.write). A sealed sector of Slots read (codec.read); codec's own WriteSlots and ReadSlots. -/
import Derived.Test.YtgakidimipipeaaGohpejehj
import Derived.Deep.RegionHeld3
namespace Go.Proofs.Ytgakidimipipeaa
open Go.RowKit Go.Sort
set_option linter.unusedVariables false
set_option linter.unusedSimpArgs false
set_option maxRecDepth 100000

def maySlot (l : List FldD) : Bool := decide (0 ≤ fieldZ l 3 ∧ fieldZ l 3 ≤ 2)
def upSlot (L : List (List FldD)) : Bool := decide (L.length ≤ 10) && L.all maySlot
noncomputable def writeSlot (L : List (List FldD)) : List Nat × Int := if upSlot L = false ∨ wrF L.flatten = true then (noughts, 1) else (sealL 4 (wrB L.flatten), 0)
theorem maySlot_is (z0 z1 z2 z3 : Int) (w : World) : Calls Try.prog 100 #[.agg #[.int .i64 z0, .int .u32 z1, .int .i64 z2, .int .i64 z3]] w fun e w' => e = .returned (.bool (maySlot (fldSlot z0 z1 z2 z3))) ∧ Below w.heap.size w w' := by
  have hm : maySlot (fldSlot z0 z1 z2 z3) = decide (0 ≤ z3 ∧ z3 ≤ 2) := rfl
  rw [hm]
  clear hm
  go_enter Try.func100, Try.ntmps100
  go_wp2_with fail
  refine (among_is z3 0 2 _).mono ?_
  rintro e w2 ⟨rfl, rfl⟩
  go_wp2
  go_ret
  exact ⟨by simp, below_box _ _⟩
def IsUpSlot (w : World) (v : Value) : Prop := ∃ g1 g2 : Nat, v = .func (.func 125) #[] #[.pointer (some ⟨g1, 0, none⟩), .pointer (some ⟨g2, 0, none⟩)] ∧ w.heap[g1]? = some (.cells #[.int .i64 10] 3 (0, 0)) ∧ w.heap[g2]? = some (.cells #[.func (.func 100) #[] #[]] 119 (0, 0))
theorem IsUpSlot.below {w w' : World} {v : Value} (h : IsUpSlot w v) (b : Below w.heap.size w w') : IsUpSlot w' v := by
  obtain ⟨g1, g2, e, h1, h2⟩ := h
  exact ⟨g1, g2, e, (b.block g1 (Array.getElem?_eq_some_iff.1 h1).1).trans h1, (b.block g2 (Array.getElem?_eq_some_iff.1 h2).1).trans h2⟩
def IsRestSlot (w : World) (v : Value) : Prop := ∃ g : Nat, v = .func (.func 126) #[] #[.pointer (some ⟨g, 0, none⟩)] ∧ w.heap[g]? = some (.cells #[.func (.func 102) #[] #[]] 169 (0, 0))
theorem IsRestSlot.below {w w' : World} {v : Value} (h : IsRestSlot w v) (b : Below w.heap.size w w') : IsRestSlot w' v := by
  obtain ⟨g, e, h1⟩ := h
  exact ⟨g, e, (b.block g (Array.getElem?_eq_some_iff.1 h1).1).trans h1⟩
theorem uptoSlot_is (w : World) : Calls Try.prog 99 #[.int .i64 10, .func (.func 100) #[] #[]] w fun e w' => ∃ v, e = .returned v ∧ IsUpSlot w' v ∧ Below w.heap.size w w' := by
  have q1 := below_box w (.cells #[.int .i64 10] 3)
  have m1 := heap_alloc_new w (.cells #[.int .i64 10] 3)
  obtain ⟨w1, hw1⟩ : ∃ x, w.alloc (.cells #[.int .i64 10] 3) = x := ⟨_, rfl⟩
  have hs1 : w1.heap.size = w.heap.size + 1 := by rw [← hw1]; simp
  rw [hw1] at q1 m1
  have q2 := below_box w1 (.cells #[.func (.func 100) #[] #[]] 119)
  have m2 := heap_alloc_new w1 (.cells #[.func (.func 100) #[] #[]] 119)
  obtain ⟨w2, hw2⟩ : ∃ x, w1.alloc (.cells #[.func (.func 100) #[] #[]] 119) = x := ⟨_, rfl⟩
  rw [hw2] at q2 m2
  have m12 := (q2.block w.heap.size (by omega)).trans m1
  have HB := Lib.hid (below_next q1 q2)
  have HU : Hid (IsUpSlot w2 (.func (.func 125) #[] #[.pointer (some ⟨w.heap.size, 0, none⟩), .pointer (some ⟨w1.heap.size, 0, none⟩)])) := Lib.hid ⟨_, _, rfl, m12, m2⟩
  clear q1 m1 q2 m2 m12
  go_enter Try.func99, Try.ntmps99
  go_wp2
  go_ret
  rw [hs1] at HU
  exact ⟨_, rfl, HU.out, HB.out⟩
theorem rest0Slot_is (w : World) : Calls Try.prog 101 #[.func (.func 102) #[] #[]] w fun e w' => ∃ v, e = .returned v ∧ IsRestSlot w' v ∧ Below w.heap.size w w' := by
  have q1 := below_box w (.cells #[.func (.func 102) #[] #[]] 169)
  have m1 := heap_alloc_new w (.cells #[.func (.func 102) #[] #[]] 169)
  have H := Lib.hid (And.intro q1 m1)
  clear q1 m1
  go_enter Try.func101, Try.ntmps101
  go_wp2
  go_ret
  exact ⟨_, rfl, ⟨_, rfl, H.out.2⟩, H.out.1⟩
set_option maxHeartbeats 1600000 in
theorem upsSlot_is {w : World} (L : List (List FldD)) (hL : ∀ x ∈ L, IsFSlot x) (a : Option Addr) (cap : Nat) (hr : ReadsR w a 4 (L.map rowV)) (g1 g2 : Nat) (n1 : w.heap[g1]? = some (.cells #[.int .i64 10] 3 (0, 0))) (n2 : w.heap[g2]? = some (.cells #[.func (.func 100) #[] #[]] 119 (0, 0))) :
    Calls Try.prog 125 #[.slice a L.length cap, .pointer (some ⟨g1, 0, none⟩), .pointer (some ⟨g2, 0, none⟩)] w fun e w' => e = .returned (.bool (upSlot L)) ∧ Below w.heap.size w w' := by
  have hg1 : g1 < w.heap.size := (Array.getElem?_eq_some_iff.1 n1).1
  have hg2 : g2 < w.heap.size := (Array.getElem?_eq_some_iff.1 n2).1
  have c1 : w.cell? ⟨g1, 0, none⟩ = some (.int .i64 10) := (cell_of_row n1 0).trans rfl
  have c2 : w.cell? ⟨g2, 0, none⟩ = some (.func (.func 100) #[] #[]) := (cell_of_row n2 0).trans rfl
  obtain ⟨n, hn⟩ : ∃ n, L.length = n := ⟨_, rfl⟩
  have HN := Lib.hid hn
  have HL := Lib.hid hL
  have HR := Lib.hid hr
  rw [hn]
  clear hn hL hr n1 n2
  by_cases hm : n ≤ 10
  · have hmI : ¬ ((10 : Int) < (n : Int)) := by omega
    have HUP : Hid (upSlot L = L.all maySlot) := by show _ = _; unfold upSlot; rw [HN.out, decide_eq_true hm, Bool.true_and]
    have HC2 := Lib.hid c2
    clear c2
    go_enter Try.func125, Try.ntmps125
    go_wp2
    clear c1
    go_loopw [13] (fun i wr => ∃ k : Nat, k ≤ n ∧ i = .int .i64 k ∧ Hid (∀ x ∈ L.take k, maySlot x = true) ∧ Hid (Below w.heap.size w wr)) (fun i _ => n - (intOf i).toNat)
    case atStart => exact ⟨0, Nat.zero_le _, rfl, Lib.hid (by simp), Lib.hid (Below.refl _ _)⟩
    case round =>
      obtain ⟨k, hk, rfl, HA, HB⟩ := hrel
      by_cases hlt : k < n
      · obtain ⟨x, hx⟩ : ∃ x, L[k]? = some x := ⟨_, List.getElem?_eq_getElem (by rw [HN.out]; exact hlt)⟩
        obtain ⟨z0, z1, z2, z3, rfl, _⟩ := HL.out x (List.mem_of_getElem? hx)
        obtain ⟨b, off, rfl, hb, hc⟩ := (HR.out.below HB.out).row (show (L.map rowV)[k]? = some (rowV (fldSlot z0 z1 z2 z3)) by rw [List.getElem?_map, hx]; rfl)
        have hcell : ∀ (i : Nat) (u : Value), (rowV (fldSlot z0 z1 z2 z3))[i]? = some u → wr.cell? ⟨b, off + k * 4 + i, none⟩ = some u := fun i u hi => by
          have h1 := hc i u hi
          rwa [← Nat.add_assoc] at h1
        have c_0 : wr.cell? ⟨b, off + k * 4, none⟩ = some (.int .i64 z0) := hcell 0 _ rfl
        have c_1 : wr.cell? ⟨b, off + k * 4 + 1, none⟩ = some (.int .u32 z1) := hcell 1 _ rfl
        have c_2 : wr.cell? ⟨b, off + k * 4 + 2, none⟩ = some (.int .i64 z2) := hcell 2 _ rfl
        have c_3 : wr.cell? ⟨b, off + k * 4 + 3, none⟩ = some (.int .i64 z3) := hcell 3 _ rfl
        have c2 : wr.cell? ⟨g2, 0, none⟩ = some (.func (.func 100) #[] #[]) := (HB.out.cell (p := ⟨g2, 0, none⟩) hg2).trans HC2.out
        have hg2r : g2 < wr.heap.size := Nat.lt_of_lt_of_le hg2 HB.out.size
        have c2' : (wr.alloc (.cells #[.int .i64 z0, .int .u32 z1, .int .i64 z2, .int .i64 z3] 28)).cell? ⟨g2, 0, none⟩ = some (.func (.func 100) #[] #[]) := ((below_box wr (.cells #[.int .i64 z0, .int .u32 z1, .int .i64 z2, .int .i64 z3] 28)).cell (p := ⟨g2, 0, none⟩) hg2r).trans c2
        have hx0 : (0 : Int) ≤ (k : Int) := by omega
        have hx1 : (k : Int) < (n : Int) := by omega
        have HX := Lib.hid hx
        have HMAY := Lib.hid (maySlot_is z0 z1 z2 z3 (wr.alloc (.cells #[.int .i64 z0, .int .u32 z1, .int .i64 z2, .int .i64 z3] 28)))
        clear hc hcell hx hb
        cases hmy : maySlot (fldSlot z0 z1 z2 z3) with
        | true =>
          rw [hmy] at HMAY
          have HMY := Lib.hid hmy
          clear hmy
          go_wp2_with (go_at_call 100; refine HMAY.out.mono ?_; rintro e w5 ⟨rfl, b5⟩; have HB5 := Lib.hid (below_next (below_next HB.out (below_box wr (.cells #[.int .i64 z0, .int .u32 z1, .int .i64 z2, .int .i64 z3] 28))) b5); clear b5)
          go_roundw
          case rel =>
            refine ⟨k + 1, by omega, by go_num, Lib.hid fun x hx => ?_, HB5⟩
            rw [List.take_add_one, HX.out] at hx
            rcases List.mem_append.1 hx with hx | hx
            · exact HA.out x hx
            · obtain rfl : x = fldSlot z0 z1 z2 z3 := by simpa using hx
              exact HMY.out
          case measure => simp [intOf]; omega
        | false =>
          rw [hmy] at HMAY
          have HMY : Hid (upSlot L = false) := by
            show _ = _
            rw [HUP.out]
            exact List.all_eq_false.2 ⟨_, List.mem_of_getElem? HX.out, by rw [hmy]; decide⟩
          clear hmy
          go_wp2_with (go_at_call 100; refine HMAY.out.mono ?_; rintro e w5 ⟨rfl, b5⟩; have HB5 := Lib.hid (below_next (below_next HB.out (below_box wr (.cells #[.int .i64 z0, .int .u32 z1, .int .i64 z2, .int .i64 z3] 28))) b5); clear b5)
          go_ret
          exact ⟨by rw [HMY.out]; rfl, HB5.out⟩
      · obtain rfl : k = n := by omega
        have HMY : Hid (upSlot L = true) := by
          show _ = _
          have h := HA.out
          rw [List.take_of_length_le (by rw [HN.out]; exact Nat.le_refl _)] at h
          rw [HUP.out]
          exact List.all_eq_true.2 h
        go_wp2
        go_ret
        exact ⟨by rw [HMY.out]; rfl, HB.out⟩
  · have hmI : ((10 : Int) < (n : Int)) := by omega
    have HMY : Hid (upSlot L = false) := by show _ = _; unfold upSlot; rw [HN.out, decide_eq_false hm, Bool.false_and]
    clear c2
    go_enter Try.func125, Try.ntmps125
    go_wp2
    go_ret
    exact ⟨by rw [HMY.out]; rfl, Below.refl _ _⟩
theorem upSlot_len {L : List (List FldD)} (h : upSlot L = true) : L.length ≤ 10 := by
  unfold upSlot at h
  simp only [Bool.and_eq_true, decide_eq_true_eq] at h
  exact h.1
theorem wrSlot_len {L : List (List FldD)} (hL : ∀ x ∈ L, IsFSlot x) : (wrB L.flatten).length = L.length * 11 := by
  rw [wrB_length]
  exact widths_flat fun x hx => isFSlot_widths (hL x hx)
theorem writeSlot_length {L : List (List FldD)} (hL : ∀ x ∈ L, IsFSlot x) : (writeSlot L).1.length = 128 := by
  unfold writeSlot
  split
  · rfl
  · rename_i h
    have h1 : upSlot L = true := by cases hu : upSlot L; exact absurd (.inl hu) h; rfl
    have h2 := upSlot_len h1
    exact sealL_length (by rw [wrSlot_len hL]; omega)
set_option maxHeartbeats 1600000 in
theorem writeSlot_is {w : World} (L : List (List FldD)) (hL : ∀ x ∈ L, IsFSlot x) (a : Option Addr) (cap : Nat) (hr : ReadsR w a 4 (L.map rowV)) (vu vr : Value) (hu : IsUpSlot w vu) (hv : IsRestSlot w vr) :
    Calls Try.prog 98 #[.int .u8 4, .slice a L.length cap, vu, vr] w fun e w' => e = .returned (.tuple #[.agg (cells (writeSlot L).1), .int .i64 (writeSlot L).2]) ∧ Below w.heap.size w w' := by
  have hz := zero_sector
  have hbld := build_sector
  have b2 := below_box w (.cells (cells noughts) 41)
  have n2 := heap_alloc_new w (.cells (cells noughts) 41)
  have hu2 := hu.below b2
  have hv2 := hv.below b2
  have hr2 := hr.below b2
  obtain ⟨w2, hw2⟩ : ∃ w2, w.alloc (.cells (cells noughts) 41) = w2 := ⟨_, rfl⟩
  rw [hw2] at n2 b2 hu2 hv2 hr2
  have hs2 : w2.heap.size = w.heap.size + 1 := by rw [← hw2]; simp
  obtain ⟨g1, g2, rfl, u1, u2⟩ := hu2
  have HV := Lib.hid hv2
  have hv3 := hv2
  obtain ⟨g, rfl, _⟩ := hv2
  have HR := Lib.hid hr2
  have HUP := Lib.hid (upsSlot_is L hL a cap hr2 g1 g2 u1 u2)
  have HB := Lib.hid b2
  have HL := Lib.hid hL
  obtain ⟨n, hn⟩ : ∃ n, L.length = n := ⟨_, rfl⟩
  have HN := Lib.hid hn
  rw [hn] at HUP ⊢
  clear hu hv hr hr2 hv3 b2 u1 u2 hL hn
  go_enter Try.func98, Try.ntmps98
  go_wp2_with fail
  refine HUP.out.mono ?_
  rintro e w3 ⟨rfl, b3⟩
  have n2'' := (b3.block w.heap.size (by omega)).trans n2
  have HB3 : Hid (Below w.heap.size w w3) := HB.out.trans (b3.mono HB.out.size)
  have hs3 : w.heap.size + 1 ≤ w3.heap.size := by have := b3.size; omega
  have HR3 := Lib.hid (HR.out.below b3)
  have HV3 := Lib.hid (HV.out.below b3)
  clear b3 n2 HB hw2 hs2 HR HV
  cases hm : upSlot L with
  | false =>
    have hfin : writeSlot L = (noughts, 1) := if_pos (.inl hm)
    have HF := Lib.hid hfin
    clear hfin
    have hd := setRow_heap w3 w.heap.size _ (cells noughts) _ _ n2''
    have hb := below_setRow (g := w.heap.size) HB3.out (Nat.le_refl _) (cells noughts)
    go_wp2_with (refine wpList_store_sector rfl _ _ rfl w.heap.size noughts (by go_simp) (by go_simp) rfl _ _ n2'' rfl ?_)
    refine bodyPost_ret (results_sector rfl _ _ w.heap.size noughts _ _ rfl hd rfl) rfl ?_
    exact ⟨by rw [HF.out]; rfl, hb⟩
  | true =>
    have hmost := upSlot_len hm
    obtain ⟨g', hge, hgn⟩ := HV3.out
    obtain rfl : g = g' := by simpa using hge
    have hpw := pwriteSlot_is L HL.out (by omega) a cap g _ hgn HR3.out
    rw [HN.out] at hpw
    have HPW := Lib.hid hpw
    clear hpw hge hgn
    go_wp2_with fail
    refine HPW.out.mono ?_
    rintro e w4 ⟨b4, ⟨hf, rfl⟩ | ⟨hf, v, rfl, ho⟩⟩
    · have hfin : writeSlot L = (noughts, 1) := if_pos (.inr hf)
      have HF := Lib.hid hfin
      clear hfin
      have n4 := (b4.block w.heap.size (by omega)).trans n2''
      have hd := setRow_heap w4 w.heap.size _ (cells noughts) _ _ n4
      have hb := below_setRow (g := w.heap.size) (HB3.out.trans (b4.mono HB3.out.size)) (Nat.le_refl _) (cells noughts)
      clear b4 n2'' hf
      go_wp2_with (refine wpList_store_sector rfl _ _ rfl w.heap.size noughts (by go_simp) (by go_simp) rfl _ _ n4 rfl ?_)
      refine bodyPost_ret (results_sector rfl _ _ w.heap.size noughts _ _ rfl hd rfl) rfl ?_
      exact ⟨by rw [HF.out]; rfl, hb⟩
    · have hfin : writeSlot L = (sealL 4 (wrB L.flatten), 0) := if_neg (by rw [hm, hf]; simp)
      have HF := Lib.hid hfin
      clear hfin
      have n4 := (b4.block w.heap.size (by omega)).trans n2''
      obtain ⟨a4, cap4, rfl, hr4, _, _⟩ := ho.reads
      have HB4 : Hid (Below w.heap.size w w4) := HB3.out.trans (b4.mono HB3.out.size)
      have hs4 := Nat.le_trans hs3 b4.size
      have hlen : (wrB L.flatten).length ≤ 120 := by rw [wrSlot_len HL.out]; omega
      clear b4 n2'' ho HB3 hf
      go_wp2_with fail
      refine (make_ok 4 (wrB L.flatten) a4 _ cap4 w4 hr4 hlen (by decide) (by decide)).mono ?_
      rintro e w5 ⟨rfl, b5⟩
      have n5 := (b5.block w.heap.size (by omega)).trans n4
      have hsl := sealL_length (kind := 4) hlen
      have hd := setRow_heap w5 w.heap.size _ (cells (sealL 4 (wrB L.flatten))) _ _ n5
      have hb := below_setRow (g := w.heap.size) (HB4.out.trans (b5.mono HB4.out.size)) (Nat.le_refl _) (cells (sealL 4 (wrB L.flatten)))
      clear b5 n4 hr4 HB4
      go_wp2_with (refine wpList_store_sector rfl _ _ rfl w.heap.size (sealL 4 (wrB L.flatten)) (by go_simp) (by go_simp) hsl _ _ n5 rfl ?_)
      refine bodyPost_ret (results_sector rfl _ _ w.heap.size (sealL 4 (wrB L.flatten)) _ _ rfl hd hsl) rfl ?_
      exact ⟨by rw [HF.out]; rfl, hb⟩
end Go.Proofs.Ytgakidimipipeaa

namespace Go.Proofs.Ytgakidimipipeaa
open Go.RowKit Go.Sort
set_option linter.unusedVariables false
set_option linter.unusedSimpArgs false
set_option maxRecDepth 100000

noncomputable def readSlot (s : List Nat) : List (List FldD) × Int := if (writeSlot (itemsR zeroSlot (bO s))).2 = 0 ∧ (writeSlot (itemsR zeroSlot (bO s))).1 = s then (itemsR zeroSlot (bO s), 0) else ([], 21)
set_option maxHeartbeats 1600000 in
theorem readSlot_is {w : World} (s : List Nat) (hs : s.length = 128) (hb : Bytes s) (vu vr : Value) (hu : IsUpSlot w vu) (hv : IsRestSlot w vr) :
    Calls Try.prog 104 #[.int .u8 4, .agg (cells s), vu, vr] w (ReadsPost 28 4 w (readSlot s)) := by
  have hz := zero_sector
  have b1 := below_box w (.cells (cells s) 41)
  have n1 := heap_alloc_new w (.cells (cells s) 41)
  have hu1 := hu.below b1
  have hv1 := hv.below b1
  obtain ⟨w1, hw1⟩ : ∃ w1, w.alloc (.cells (cells s) 41) = w1 := ⟨_, rfl⟩
  have hs1 : w1.heap.size = w.heap.size + 1 := by rw [← hw1]; simp
  rw [hw1] at b1 n1 hu1 hv1
  have HU := Lib.hid hu1
  have HV := Lib.hid hv1
  have HB := Lib.hid b1
  have HC := Lib.hid (box_cells hs n1)
  have HITS := Lib.hid (itemsSlot_is (bO_bytes hb))
  have hblen := bO_length hs
  obtain ⟨gr, hvr, _⟩ := id hv
  subst hvr
  clear b1 hu hv hu1 hv1
  go_enter Try.func104, Try.ntmps104
  go_wp2_with (refine wpList_load_sector rfl _ rfl w.heap.size 0 s (by go_simp) hs HC.out ?_)
  refine (open_any2 s hs hb w1).mono ?_
  rintro e w3 ⟨b3, h3⟩
  have n1'' := (b3.block w.heap.size (by omega)).trans n1
  have HB3 : Hid (Below w.heap.size w w3) := HB.out.trans (b3.mono HB.out.size)
  have hs3 : w.heap.size + 1 ≤ w3.heap.size := by have := b3.size; omega
  have HU3 := Lib.hid (HU.out.below b3)
  have HV3 := Lib.hid (HV.out.below b3)
  obtain ⟨k, a3, cap3, er, he, hr3, hc3, hm3⟩ : ∃ (k : Nat) (a3 : Option Addr) (cap3 : Nat) (er : Int), e = .returned (.tuple #[.int .u8 k, .slice a3 (bO s).length cap3, .int .i64 er]) ∧ Reads w3 a3 (bO s).length (bO s) ∧ (bO s).length ≤ cap3 ∧ cap3 ≤ maxLen := by
    rcases h3 with ⟨ho, a, cap, he, hr, hc, hm⟩ | ⟨ho, he⟩
    · have e : bO s = bodyL s := if_pos ho
      rw [e]
      exact ⟨_, a, cap, _, he, hr, hc, hm⟩
    · have e : bO s = [] := if_neg (by rw [ho]; decide)
      rw [e]
      exact ⟨0, none, 0, 21, he, ⟨rfl, by intro x hx; simp at hx, .inl rfl⟩, Nat.le_refl _, by unfold maxLen; omega⟩
  subst he
  obtain ⟨g', hge, hgn⟩ := HV3.out
  obtain rfl : gr = g' := by simpa using hge
  have HPR := Lib.hid (preadSlot_is _ hgn hr3 hc3 hm3 (by omega))
  clear h3 b3 n1 HB HC hw1 hs1 HU HV hge hgn hr3
  go_wp2_with fail
  refine HPR.out.mono ?_
  rintro e w4 ⟨b4, v4, rfl, ho4⟩
  have HX : Hid (readSlot s = if (writeSlot (itemsR zeroSlot (bO s))).2 = 0 ∧ (writeSlot (itemsR zeroSlot (bO s))).1 = s then (itemsR zeroSlot (bO s), 0) else ([], 21)) := rfl
  obtain ⟨x, hx⟩ : ∃ x, itemsR zeroSlot (bO s) = x := ⟨_, rfl⟩
  rw [hx] at HX ho4 HITS
  obtain ⟨a4, c4, rfl, hr4, _⟩ := owned_list ho4
  have n14 := (b4.block w.heap.size (by omega)).trans n1''
  have HB4 : Hid (Below w.heap.size w w4) := HB3.out.trans (b4.mono HB3.out.size)
  have hs4 : w.heap.size + 1 ≤ w4.heap.size := Nat.le_trans hs3 b4.size
  have HO4 := Lib.hid (ho4.less (show w.heap.size ≤ w3.heap.size by omega))
  have HW := Lib.hid (writeSlot_is x HITS.out a4 c4 hr4 vu _ (HU3.out.below b4) (HV3.out.below b4))
  have hmk := writeSlot_length HITS.out
  obtain ⟨mk, hmke⟩ : ∃ mk, (writeSlot x).1 = mk := ⟨_, rfl⟩
  obtain ⟨er2, here⟩ : ∃ er2, (writeSlot x).2 = er2 := ⟨_, rfl⟩
  rw [hmke, here] at HX HW
  rw [hmke] at hmk
  obtain ⟨nx, hnx⟩ : ∃ nx, x.length = nx := ⟨_, rfl⟩
  have HNX := Lib.hid hnx
  rw [hnx] at HW HO4 ⊢
  clear n1'' HB3 hs3 b4 ho4 hr4 hx hc3 hm3 HPR HU3 HV3 hmke here hnx
  go_wp2_with fail
  refine HW.out.mono ?_
  rintro e w6 ⟨rfl, b6⟩
  have n16 := (b6.block w.heap.size (by omega)).trans n14
  have HB6 : Hid (Below w.heap.size w w6) := HB4.out.trans (b6.mono HB4.out.size)
  have hs6 : w.heap.size + 1 ≤ w6.heap.size := by have := b6.size; omega
  have ho6 := HO4.out.below b6
  have nn := heap_alloc_new w6 (.cells (cells noughts) 41)
  have b7 := below_box w6 (.cells (cells mk) 41)
  have n7 := heap_alloc_new w6 (.cells (cells mk) 41)
  have e7 := World.setRow_alloc_new w6 (cells noughts) (cells mk) 41
  have HO7 := Lib.hid (ho6.below b7)
  obtain ⟨w7, hw7⟩ : ∃ w7, w6.alloc (.cells (cells mk) 41) = w7 := ⟨_, rfl⟩
  rw [hw7] at b7 n7 e7 HO7
  have n17 := (b7.block w.heap.size (by omega)).trans n16
  have HB7 : Hid (Below w.heap.size w w7) := HB6.out.trans (b7.mono HB6.out.size)
  obtain ⟨m2, hm2⟩ : ∃ m2, w6.heap.size = m2 := ⟨_, rfl⟩
  rw [hm2] at n7 e7 nn hs6
  have HC7 := Lib.hid (block_cells hmk n7)
  have HCs := Lib.hid (block_cells hs n17)
  have hneq := run_neq_sector mk s hmk hs
  clear n16 HB6 b6 b7 hw7 n14 HB4 hs4 HO4 ho6 HW n7 n17
  by_cases her : er2 = 0
  · subst her
    by_cases hms : mk = s
    · have hfin : readSlot s = (x, 0) := HX.out.trans (if_pos ⟨rfl, hms⟩)
      have HF := Lib.hid hfin
      rw [decide_eq_true hms, Bool.not_true] at hneq
      clear hfin hms
      go_wp2_with (first
        | (refine wpList_store_sector rfl _ _ rfl m2 mk rfl rfl hmk _ _ nn rfl ?_; rw [e7])
        | refine wpList_load_sector_want rfl _ rfl m2 0 mk rfl hmk HC7.out ?_
        | refine wpList_load_sector_want rfl _ rfl w.heap.size 0 s rfl hs HCs.out ?_)
      go_ret2
      unfold ReadsPost
      rw [HF.out]
      refine ⟨HB7.out, a4, c4, ?_, ?_⟩
      · show _ = Ending.returned (.tuple #[.slice a4 x.length c4, .int .i64 0])
        rw [HNX.out]; rfl
      · show OwnsR' _ _ _ _ (.slice a4 x.length c4) (x.map rowV)
        rw [HNX.out]; exact HO7.out
    · have hfin : readSlot s = ([], 21) := HX.out.trans (if_neg (fun h => hms h.2))
      have HF := Lib.hid hfin
      rw [decide_eq_false hms, Bool.not_false] at hneq
      clear hfin hms
      go_wp2_with (first
        | (refine wpList_store_sector rfl _ _ rfl m2 mk rfl rfl hmk _ _ nn rfl ?_; rw [e7])
        | refine wpList_load_sector_want rfl _ rfl m2 0 mk rfl hmk HC7.out ?_
        | refine wpList_load_sector_want rfl _ rfl w.heap.size 0 s rfl hs HCs.out ?_)
      go_ret2
      unfold ReadsPost
      rw [HF.out]
      exact ⟨HB7.out, none, 0, rfl, OwnsR'.nil _ _ _ _⟩
  · have hne0 : (er2 == 0) = false := by simpa using her
    have hfin : readSlot s = ([], 21) := HX.out.trans (if_neg (fun h => her h.1))
    have HF := Lib.hid hfin
    clear hfin
    go_wp2_with (first
      | (refine wpList_store_sector rfl _ _ rfl m2 mk rfl rfl hmk _ _ nn rfl ?_; rw [e7])
      | refine wpList_load_sector_want rfl _ rfl m2 0 mk rfl hmk HC7.out ?_
      | refine wpList_load_sector_want rfl _ rfl w.heap.size 0 s rfl hs HCs.out ?_)
    go_ret2
    unfold ReadsPost
    rw [HF.out]
    exact ⟨HB7.out, none, 0, rfl, OwnsR'.nil _ _ _ _⟩
set_option maxHeartbeats 1600000 in
theorem writeSlots_is {w : World} (L : List (List FldD)) (hL : ∀ x ∈ L, IsFSlot x) (a : Option Addr) (cap : Nat) (hr : ReadsR w a 4 (L.map rowV)) :
    Calls Try.prog 53 #[.slice a L.length cap] w fun e w' => e = .returned (.tuple #[.agg (cells (writeSlot L).1), .int .i64 (writeSlot L).2]) ∧ Below w.heap.size w w' := by
  have hz := zero_sector
  have b1 := below_box w (.cells (cells noughts) 41)
  have n1 := heap_alloc_new w (.cells (cells noughts) 41)
  have hr1 := hr.below b1
  obtain ⟨w1, hw1⟩ : ∃ w1, w.alloc (.cells (cells noughts) 41) = w1 := ⟨_, rfl⟩
  have hs1 : w1.heap.size = w.heap.size + 1 := by rw [← hw1]; simp
  rw [hw1] at b1 n1 hr1
  have HB := Lib.hid b1
  have HR1 := Lib.hid hr1
  have HL := Lib.hid hL
  have hlen := writeSlot_length hL
  obtain ⟨n, hn⟩ : ∃ n, L.length = n := ⟨_, rfl⟩
  have HN := Lib.hid hn
  rw [hn]
  clear hr b1 hr1 hL hn
  go_enter Try.func53, Try.ntmps53
  go_wp2_with fail
  refine (uptoSlot_is w1).mono ?_
  rintro e w2 ⟨vu, rfl, hu2, b2⟩
  have HU2 := Lib.hid hu2
  have HB2 := Lib.hid b2
  obtain ⟨u1, u2, rfl, _⟩ := hu2
  clear b2
  go_wp2_with fail
  refine (rest0Slot_is w2).mono ?_
  rintro e w3 ⟨vr, rfl, hv3, b3⟩
  have HW := writeSlot_is L HL.out a cap ((HR1.out.below HB2.out).below b3) _ _ (HU2.out.below b3) hv3
  rw [HN.out] at HW
  have HW' := Lib.hid HW
  obtain ⟨u3, rfl, _⟩ := hv3
  have n3 := (b3.block w.heap.size (by have := HB2.out.size; omega)).trans ((HB2.out.block w.heap.size (by omega)).trans n1)
  have HB3 : Hid (Below w.heap.size w w3) := Lib.hid (below_next (below_next HB.out HB2.out) b3)
  have hs3 : w.heap.size + 1 ≤ w3.heap.size := by have := b3.size; have := HB2.out.size; omega
  clear b3 HW n1 hw1 hs1 HB HB2 HU2 HR1
  go_wp2_with fail
  refine HW'.out.mono ?_
  rintro e w5 ⟨rfl, b5⟩
  obtain ⟨s, hse⟩ : ∃ s, (writeSlot L).1 = s := ⟨_, rfl⟩
  obtain ⟨er, here⟩ : ∃ er, (writeSlot L).2 = er := ⟨_, rfl⟩
  have HS := Lib.hid (And.intro hse here)
  rw [hse, here]
  rw [hse] at hlen
  have n5 := (b5.block w.heap.size (by omega)).trans n3
  have hd := setRow_heap w5 w.heap.size _ (cells s) _ _ n5
  have hb := below_setRow (g := w.heap.size) (HB3.out.trans (b5.mono HB3.out.size)) (Nat.le_refl _) (cells s)
  clear b5 n3 HB3 hse here HW'
  go_wp2_with (refine wpList_store_sector rfl _ _ rfl w.heap.size s rfl rfl hlen _ _ n5 rfl ?_)
  refine bodyPost_ret (results_sector rfl _ _ w.heap.size s _ _ rfl hd hlen) rfl ?_
  exact ⟨by rw [HS.out.1, HS.out.2]; rfl, hb⟩
end Go.Proofs.Ytgakidimipipeaa
