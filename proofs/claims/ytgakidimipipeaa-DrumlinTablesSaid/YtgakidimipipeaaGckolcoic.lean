/- At most so many Uses, each of which may be (codec.upTo); a sealed sector of them (codec.write). -/
import Derived.Test.YtgakidimipipeaaGknhcpepa
namespace Go.Proofs.Ytgakidimipipeaa
open Go.RowKit Go.Sort
set_option linter.unusedVariables false
set_option linter.unusedSimpArgs false
set_option maxRecDepth 100000

def mayUse (l : List FldD) : Bool := decide (0 ≤ fieldZ l 1 ∧ fieldZ l 1 ≤ 3)
def upUse (L : List (List FldD)) : Bool := decide (L.length ≤ 15) && L.all mayUse
noncomputable def writeUse (L : List (List FldD)) : List Nat × Int := if upUse L = false ∨ wrF L.flatten = true then (noughts, 1) else (sealL 5 (wrB L.flatten), 0)
theorem mayUse_is (z0 z1 z2 : Int) (w : World) : Calls Try.prog 70 #[.agg #[.int .i64 z0, .int .i64 z1, .int .u32 z2]] w fun e w' => e = .returned (.bool (mayUse (fldUse z0 z1 z2))) ∧ Below w.heap.size w w' := by
  have hm : mayUse (fldUse z0 z1 z2) = decide (0 ≤ z1 ∧ z1 ≤ 3) := rfl
  rw [hm]
  clear hm
  go_enter Try.func70, Try.ntmps70
  go_wp2_with fail
  refine (among_is z1 0 3 _).mono ?_
  rintro e w2 ⟨rfl, rfl⟩
  go_wp2
  go_ret
  exact ⟨by simp, below_box _ _⟩
def IsUpUse (w : World) (v : Value) : Prop := ∃ g1 g2 : Nat, v = .func (.func 107) #[] #[.pointer (some ⟨g1, 0, none⟩), .pointer (some ⟨g2, 0, none⟩)] ∧ w.heap[g1]? = some (.cells #[.int .i64 15] 3 (0, 0)) ∧ w.heap[g2]? = some (.cells #[.func (.func 70) #[] #[]] 128 (0, 0))
theorem IsUpUse.below {w w' : World} {v : Value} (h : IsUpUse w v) (b : Below w.heap.size w w') : IsUpUse w' v := by
  obtain ⟨g1, g2, e, h1, h2⟩ := h
  exact ⟨g1, g2, e, (b.block g1 (Array.getElem?_eq_some_iff.1 h1).1).trans h1, (b.block g2 (Array.getElem?_eq_some_iff.1 h2).1).trans h2⟩
def IsRestUse (w : World) (v : Value) : Prop := ∃ g : Nat, v = .func (.func 109) #[] #[.pointer (some ⟨g, 0, none⟩)] ∧ w.heap[g]? = some (.cells #[.func (.func 72) #[] #[]] 134 (0, 0))
theorem IsRestUse.below {w w' : World} {v : Value} (h : IsRestUse w v) (b : Below w.heap.size w w') : IsRestUse w' v := by
  obtain ⟨g, e, h1⟩ := h
  exact ⟨g, e, (b.block g (Array.getElem?_eq_some_iff.1 h1).1).trans h1⟩
theorem uptoUse_is (w : World) : Calls Try.prog 69 #[.int .i64 15, .func (.func 70) #[] #[]] w fun e w' => ∃ v, e = .returned v ∧ IsUpUse w' v ∧ Below w.heap.size w w' := by
  have q1 := below_box w (.cells #[.int .i64 15] 3)
  have m1 := heap_alloc_new w (.cells #[.int .i64 15] 3)
  obtain ⟨w1, hw1⟩ : ∃ x, w.alloc (.cells #[.int .i64 15] 3) = x := ⟨_, rfl⟩
  have hs1 : w1.heap.size = w.heap.size + 1 := by rw [← hw1]; simp
  rw [hw1] at q1 m1
  have q2 := below_box w1 (.cells #[.func (.func 70) #[] #[]] 128)
  have m2 := heap_alloc_new w1 (.cells #[.func (.func 70) #[] #[]] 128)
  obtain ⟨w2, hw2⟩ : ∃ x, w1.alloc (.cells #[.func (.func 70) #[] #[]] 128) = x := ⟨_, rfl⟩
  rw [hw2] at q2 m2
  have m12 := (q2.block w.heap.size (by omega)).trans m1
  have HB := Lib.hid (below_next q1 q2)
  have HU : Hid (IsUpUse w2 (.func (.func 107) #[] #[.pointer (some ⟨w.heap.size, 0, none⟩), .pointer (some ⟨w1.heap.size, 0, none⟩)])) := Lib.hid ⟨_, _, rfl, m12, m2⟩
  clear q1 m1 q2 m2 m12
  go_enter Try.func69, Try.ntmps69
  go_wp2
  go_ret
  rw [hs1] at HU
  exact ⟨_, rfl, HU.out, HB.out⟩
theorem rest0Use_is (w : World) : Calls Try.prog 71 #[.func (.func 72) #[] #[]] w fun e w' => ∃ v, e = .returned v ∧ IsRestUse w' v ∧ Below w.heap.size w w' := by
  have q1 := below_box w (.cells #[.func (.func 72) #[] #[]] 134)
  have m1 := heap_alloc_new w (.cells #[.func (.func 72) #[] #[]] 134)
  have H := Lib.hid (And.intro q1 m1)
  clear q1 m1
  go_enter Try.func71, Try.ntmps71
  go_wp2
  go_ret
  exact ⟨_, rfl, ⟨_, rfl, H.out.2⟩, H.out.1⟩
set_option maxHeartbeats 1600000 in
theorem upsUse_is {w : World} (L : List (List FldD)) (hL : ∀ x ∈ L, IsFUse x) (a : Option Addr) (cap : Nat) (hr : ReadsR w a 3 (L.map rowV)) (g1 g2 : Nat) (n1 : w.heap[g1]? = some (.cells #[.int .i64 15] 3 (0, 0))) (n2 : w.heap[g2]? = some (.cells #[.func (.func 70) #[] #[]] 128 (0, 0))) :
    Calls Try.prog 107 #[.slice a L.length cap, .pointer (some ⟨g1, 0, none⟩), .pointer (some ⟨g2, 0, none⟩)] w fun e w' => e = .returned (.bool (upUse L)) ∧ Below w.heap.size w w' := by
  have hg1 : g1 < w.heap.size := (Array.getElem?_eq_some_iff.1 n1).1
  have hg2 : g2 < w.heap.size := (Array.getElem?_eq_some_iff.1 n2).1
  have c1 : w.cell? ⟨g1, 0, none⟩ = some (.int .i64 15) := (cell_of_row n1 0).trans rfl
  have c2 : w.cell? ⟨g2, 0, none⟩ = some (.func (.func 70) #[] #[]) := (cell_of_row n2 0).trans rfl
  obtain ⟨n, hn⟩ : ∃ n, L.length = n := ⟨_, rfl⟩
  have HN := Lib.hid hn
  have HL := Lib.hid hL
  have HR := Lib.hid hr
  rw [hn]
  clear hn hL hr n1 n2
  by_cases hm : n ≤ 15
  · have hmI : ¬ ((15 : Int) < (n : Int)) := by omega
    have HUP : Hid (upUse L = L.all mayUse) := by show _ = _; unfold upUse; rw [HN.out, decide_eq_true hm, Bool.true_and]
    have HC2 := Lib.hid c2
    clear c2
    go_enter Try.func107, Try.ntmps107
    go_wp2
    clear c1
    go_loopw [13] (fun i wr => ∃ k : Nat, k ≤ n ∧ i = .int .i64 k ∧ Hid (∀ x ∈ L.take k, mayUse x = true) ∧ Hid (Below w.heap.size w wr)) (fun i _ => n - (intOf i).toNat)
    case atStart => exact ⟨0, Nat.zero_le _, rfl, Lib.hid (by simp), Lib.hid (Below.refl _ _)⟩
    case round =>
      obtain ⟨k, hk, rfl, HA, HB⟩ := hrel
      by_cases hlt : k < n
      · obtain ⟨x, hx⟩ : ∃ x, L[k]? = some x := ⟨_, List.getElem?_eq_getElem (by rw [HN.out]; exact hlt)⟩
        obtain ⟨z0, z1, z2, rfl, _⟩ := HL.out x (List.mem_of_getElem? hx)
        obtain ⟨b, off, rfl, hb, hc⟩ := (HR.out.below HB.out).row (show (L.map rowV)[k]? = some (rowV (fldUse z0 z1 z2)) by rw [List.getElem?_map, hx]; rfl)
        have hcell : ∀ (i : Nat) (u : Value), (rowV (fldUse z0 z1 z2))[i]? = some u → wr.cell? ⟨b, off + k * 3 + i, none⟩ = some u := fun i u hi => by
          have h1 := hc i u hi
          rwa [← Nat.add_assoc] at h1
        have c_0 : wr.cell? ⟨b, off + k * 3, none⟩ = some (.int .i64 z0) := hcell 0 _ rfl
        have c_1 : wr.cell? ⟨b, off + k * 3 + 1, none⟩ = some (.int .i64 z1) := hcell 1 _ rfl
        have c_2 : wr.cell? ⟨b, off + k * 3 + 2, none⟩ = some (.int .u32 z2) := hcell 2 _ rfl
        have c2 : wr.cell? ⟨g2, 0, none⟩ = some (.func (.func 70) #[] #[]) := (HB.out.cell (p := ⟨g2, 0, none⟩) hg2).trans HC2.out
        have hg2r : g2 < wr.heap.size := Nat.lt_of_lt_of_le hg2 HB.out.size
        have c2' : (wr.alloc (.cells #[.int .i64 z0, .int .i64 z1, .int .u32 z2] 123)).cell? ⟨g2, 0, none⟩ = some (.func (.func 70) #[] #[]) := ((below_box wr (.cells #[.int .i64 z0, .int .i64 z1, .int .u32 z2] 123)).cell (p := ⟨g2, 0, none⟩) hg2r).trans c2
        have hx0 : (0 : Int) ≤ (k : Int) := by omega
        have hx1 : (k : Int) < (n : Int) := by omega
        have HX := Lib.hid hx
        have HMAY := Lib.hid (mayUse_is z0 z1 z2 (wr.alloc (.cells #[.int .i64 z0, .int .i64 z1, .int .u32 z2] 123)))
        clear hc hcell hx hb
        cases hmy : mayUse (fldUse z0 z1 z2) with
        | true =>
          rw [hmy] at HMAY
          have HMY := Lib.hid hmy
          clear hmy
          go_wp2_with (go_at_call 70; refine HMAY.out.mono ?_; rintro e w5 ⟨rfl, b5⟩; have HB5 := Lib.hid (below_next (below_next HB.out (below_box wr (.cells #[.int .i64 z0, .int .i64 z1, .int .u32 z2] 123))) b5); clear b5)
          go_roundw
          case rel =>
            refine ⟨k + 1, by omega, by go_num, Lib.hid fun x hx => ?_, HB5⟩
            rw [List.take_add_one, HX.out] at hx
            rcases List.mem_append.1 hx with hx | hx
            · exact HA.out x hx
            · obtain rfl : x = fldUse z0 z1 z2 := by simpa using hx
              exact HMY.out
          case measure => simp [intOf]; omega
        | false =>
          rw [hmy] at HMAY
          have HMY : Hid (upUse L = false) := by
            show _ = _
            rw [HUP.out]
            exact List.all_eq_false.2 ⟨_, List.mem_of_getElem? HX.out, by rw [hmy]; decide⟩
          clear hmy
          go_wp2_with (go_at_call 70; refine HMAY.out.mono ?_; rintro e w5 ⟨rfl, b5⟩; have HB5 := Lib.hid (below_next (below_next HB.out (below_box wr (.cells #[.int .i64 z0, .int .i64 z1, .int .u32 z2] 123))) b5); clear b5)
          go_ret
          exact ⟨by rw [HMY.out]; rfl, HB5.out⟩
      · obtain rfl : k = n := by omega
        have HMY : Hid (upUse L = true) := by
          show _ = _
          have h := HA.out
          rw [List.take_of_length_le (by rw [HN.out]; exact Nat.le_refl _)] at h
          rw [HUP.out]
          exact List.all_eq_true.2 h
        go_wp2
        go_ret
        exact ⟨by rw [HMY.out]; rfl, HB.out⟩
  · have hmI : ((15 : Int) < (n : Int)) := by omega
    have HMY : Hid (upUse L = false) := by show _ = _; unfold upUse; rw [HN.out, decide_eq_false hm, Bool.false_and]
    clear c2
    go_enter Try.func107, Try.ntmps107
    go_wp2
    go_ret
    exact ⟨by rw [HMY.out]; rfl, Below.refl _ _⟩
theorem upUse_len {L : List (List FldD)} (h : upUse L = true) : L.length ≤ 15 := by
  unfold upUse at h
  simp only [Bool.and_eq_true, decide_eq_true_eq] at h
  exact h.1
theorem wrUse_len {L : List (List FldD)} (hL : ∀ x ∈ L, IsFUse x) : (wrB L.flatten).length = L.length * 7 := by
  rw [wrB_length]
  exact widths_flat fun x hx => isFUse_widths (hL x hx)
theorem writeUse_length {L : List (List FldD)} (hL : ∀ x ∈ L, IsFUse x) : (writeUse L).1.length = 128 := by
  unfold writeUse
  split
  · rfl
  · rename_i h
    have h1 : upUse L = true := by cases hu : upUse L; exact absurd (.inl hu) h; rfl
    have h2 := upUse_len h1
    exact sealL_length (by rw [wrUse_len hL]; omega)
set_option maxHeartbeats 1600000 in
theorem writeUse_is {w : World} (L : List (List FldD)) (hL : ∀ x ∈ L, IsFUse x) (a : Option Addr) (cap : Nat) (hr : ReadsR w a 3 (L.map rowV)) (vu vr : Value) (hu : IsUpUse w vu) (hv : IsRestUse w vr) :
    Calls Try.prog 68 #[.int .u8 5, .slice a L.length cap, vu, vr] w fun e w' => e = .returned (.tuple #[.agg (cells (writeUse L).1), .int .i64 (writeUse L).2]) ∧ Below w.heap.size w w' := by
  have hz := zero_sector
  have hbld := build_sector
  have b2 := below_box w (.cells (cells noughts) 41)
  have n2 := heap_alloc_new w (.cells (cells noughts) 41)
  have hu2 := hu.below b2
  have hv2 := hv.below b2
  have hr2 := hr.below b2
  obtain ⟨w2, hw2⟩ : ∃ w2, w.alloc (.cells (cells noughts) 41) = w2 := ⟨_, rfl⟩
  rw [hw2] at n2 b2 hu2 hv2 hr2
  have hs2 : w2.heap.size = w.heap.size + 1 := by rw [← hw2]; simp
  obtain ⟨g1, g2, rfl, u1, u2⟩ := hu2
  have HV := Lib.hid hv2
  have hv3 := hv2
  obtain ⟨g, rfl, _⟩ := hv2
  have HR := Lib.hid hr2
  have HUP := Lib.hid (upsUse_is L hL a cap hr2 g1 g2 u1 u2)
  have HB := Lib.hid b2
  have HL := Lib.hid hL
  obtain ⟨n, hn⟩ : ∃ n, L.length = n := ⟨_, rfl⟩
  have HN := Lib.hid hn
  rw [hn] at HUP ⊢
  clear hu hv hr hr2 hv3 b2 u1 u2 hL hn
  go_enter Try.func68, Try.ntmps68
  go_wp2_with fail
  refine HUP.out.mono ?_
  rintro e w3 ⟨rfl, b3⟩
  have n2'' := (b3.block w.heap.size (by omega)).trans n2
  have HB3 : Hid (Below w.heap.size w w3) := HB.out.trans (b3.mono HB.out.size)
  have hs3 : w.heap.size + 1 ≤ w3.heap.size := by have := b3.size; omega
  have HR3 := Lib.hid (HR.out.below b3)
  have HV3 := Lib.hid (HV.out.below b3)
  clear b3 n2 HB hw2 hs2 HR HV
  cases hm : upUse L with
  | false =>
    have hfin : writeUse L = (noughts, 1) := if_pos (.inl hm)
    have HF := Lib.hid hfin
    clear hfin
    have hd := setRow_heap w3 w.heap.size _ (cells noughts) _ _ n2''
    have hb := below_setRow (g := w.heap.size) HB3.out (Nat.le_refl _) (cells noughts)
    go_wp2_with (refine wpList_store_sector rfl _ _ rfl w.heap.size noughts (by go_simp) (by go_simp) rfl _ _ n2'' rfl ?_)
    refine bodyPost_ret (results_sector rfl _ _ w.heap.size noughts _ _ rfl hd rfl) rfl ?_
    exact ⟨by rw [HF.out]; rfl, hb⟩
  | true =>
    have hmost := upUse_len hm
    obtain ⟨g', hge, hgn⟩ := HV3.out
    obtain rfl : g = g' := by simpa using hge
    have hpw := pwriteUse_is L HL.out (by omega) a cap g _ hgn HR3.out
    rw [HN.out] at hpw
    have HPW := Lib.hid hpw
    clear hpw hge hgn
    go_wp2_with fail
    refine HPW.out.mono ?_
    rintro e w4 ⟨b4, ⟨hf, rfl⟩ | ⟨hf, v, rfl, ho⟩⟩
    · have hfin : writeUse L = (noughts, 1) := if_pos (.inr hf)
      have HF := Lib.hid hfin
      clear hfin
      have n4 := (b4.block w.heap.size (by omega)).trans n2''
      have hd := setRow_heap w4 w.heap.size _ (cells noughts) _ _ n4
      have hb := below_setRow (g := w.heap.size) (HB3.out.trans (b4.mono HB3.out.size)) (Nat.le_refl _) (cells noughts)
      clear b4 n2'' hf
      go_wp2_with (refine wpList_store_sector rfl _ _ rfl w.heap.size noughts (by go_simp) (by go_simp) rfl _ _ n4 rfl ?_)
      refine bodyPost_ret (results_sector rfl _ _ w.heap.size noughts _ _ rfl hd rfl) rfl ?_
      exact ⟨by rw [HF.out]; rfl, hb⟩
    · have hfin : writeUse L = (sealL 5 (wrB L.flatten), 0) := if_neg (by rw [hm, hf]; simp)
      have HF := Lib.hid hfin
      clear hfin
      have n4 := (b4.block w.heap.size (by omega)).trans n2''
      obtain ⟨a4, cap4, rfl, hr4, _, _⟩ := ho.reads
      have HB4 : Hid (Below w.heap.size w w4) := HB3.out.trans (b4.mono HB3.out.size)
      have hs4 := Nat.le_trans hs3 b4.size
      have hlen : (wrB L.flatten).length ≤ 120 := by rw [wrUse_len HL.out]; omega
      clear b4 n2'' ho HB3 hf
      go_wp2_with fail
      refine (make_ok 5 (wrB L.flatten) a4 _ cap4 w4 hr4 hlen (by decide) (by decide)).mono ?_
      rintro e w5 ⟨rfl, b5⟩
      have n5 := (b5.block w.heap.size (by omega)).trans n4
      have hsl := sealL_length (kind := 5) hlen
      have hd := setRow_heap w5 w.heap.size _ (cells (sealL 5 (wrB L.flatten))) _ _ n5
      have hb := below_setRow (g := w.heap.size) (HB4.out.trans (b5.mono HB4.out.size)) (Nat.le_refl _) (cells (sealL 5 (wrB L.flatten)))
      clear b5 n4 hr4 HB4
      go_wp2_with (refine wpList_store_sector rfl _ _ rfl w.heap.size (sealL 5 (wrB L.flatten)) (by go_simp) (by go_simp) hsl _ _ n5 rfl ?_)
      refine bodyPost_ret (results_sector rfl _ _ w.heap.size (sealL 5 (wrB L.flatten)) _ _ rfl hd hsl) rfl ?_
      exact ⟨by rw [HF.out]; rfl, hb⟩
end Go.Proofs.Ytgakidimipipeaa
