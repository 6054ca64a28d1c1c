/- A Summary that may be; a sealed sector of it (codec.write). -/
import Derived.Test.YtplkglepbedhoaaGhgjbpjfh
import Derived.Test.YtplkglepbedhoaaGohncnbgh
import Derived.Test.YtplkglepbedhoaaGammhkoib
namespace Go.Proofs.Ytplkglepbedhoaa
open Go.RowKit Go.Sort
set_option linter.unusedVariables false
set_option linter.unusedSimpArgs false
set_option maxRecDepth 100000

set_option maxHeartbeats 1600000 in
theorem sumMay_is {w : World} {seq first time cap : Nat} {commit : Bool} {next : Int} (L : List (List FldD)) (hL : ∀ x ∈ L, IsFEntry x) (a : Option Addr) (hr : ReadsR w a 4 (L.map rowV)) :
    Calls Try.prog 81 #[.agg (sumV seq first commit next time (.slice a L.length cap))] w fun e w' => e = .returned (.bool (upEntry L)) ∧ Below w.heap.size w w' := by
  have b1 := below_box w (.cells (sumV seq first commit next time (.slice a L.length cap)) 48)
  have n1 := heap_alloc_new w (.cells (sumV seq first commit next time (.slice a L.length cap)) 48)
  obtain ⟨w1, hw1⟩ : ∃ w1, w.alloc (.cells (sumV seq first commit next time (.slice a L.length cap)) 48) = w1 := ⟨_, rfl⟩
  have hs1 : w1.heap.size = w.heap.size + 1 := by rw [← hw1]; simp
  rw [hw1] at b1 n1
  obtain ⟨w2, hw2⟩ : ∃ x, w1.drew = x := ⟨_, rfl⟩
  have b1d : Below w.heap.size w w2 := by rw [← hw2]; exact b1.drew
  have n1d : w2.heap[w.heap.size]? = some (.cells (sumV seq first commit next time (.slice a L.length cap)) 48 (0, 0)) := by rw [← hw2]; exact n1
  have c2 : w2.cell? ⟨w.heap.size, 5, none⟩ = some (.slice a L.length cap) := (cell_of_row n1d 5).trans rfl
  have hs2 : w2.heap.size = w.heap.size + 1 := by rw [← hw2]; exact hs1
  have H2 := Lib.hid (And.intro b1d (And.intro n1d (hr.below b1d)))
  clear b1 n1 hr b1d n1d
  go_enter Try.func81, Try.ntmps81
  go_wp2_with fail
  subst hw2
  refine wp_region_held_drew (S := fun W => W.cell? ⟨w.heap.size, 5, none⟩ = some (.slice a L.length cap)) (by kernel_rfl) c2 (fun hHeld => ?_)
  refine wpAnyH_take (i := 1) (v := .pointer (some ⟨w.heap.size, 5, none⟩)) rfl (by kernel_rfl) (by kernel_rfl) (by kernel_rfl) (fun _ _ _ h => h) (Or.inl ⟨by rfl, by intro W hSw; (try dsimp only at hSw); go_simp⟩) (by assumption) ?_
  try simp only [Act.put, List.setIfInBounds_toArray, List.set_cons_zero, List.set_cons_succ]
  refine wpAnyH_take (i := 2) (v := .slice a L.length cap) rfl (by kernel_rfl) (by kernel_rfl) (by kernel_rfl) (fun _ _ _ h => h) (Or.inl ⟨by rfl, by intro W hSw; (try dsimp only at hSw); go_simp⟩) (by assumption) ?_
  try simp only [Act.put, List.setIfInBounds_toArray, List.set_cons_zero, List.set_cons_succ]
  refine wpAnyH_ready (rs := [0]) (by kernel_rfl) (by simp) ?_
  refine AllReadyH.cons rfl (fun K' hK' => ?_) AllReadyH.nil
  go_simp
  refine (uptoEntry_is w1.drew).mono ?_
  rintro e w3 ⟨v, rfl, ⟨g1, g2, rfl, m1, m2⟩, b3⟩
  obtain ⟨b2, n2, hr2⟩ := H2.out
  have SA : w3.cell? ⟨w.heap.size, 5, none⟩ = some (.slice a L.length cap) := (cell_of_row ((b3.block w.heap.size (by omega)).trans n2) 5).trans rfl
  have n3 := (b3.block w.heap.size (by omega)).trans n2
  have hs3 := b3.size
  have HU := Lib.hid (upsEntry_is L hL a cap (hr2.below b3) g1 g2 m1 m2)
  have HB := Lib.hid (And.intro (b2.trans (b3.mono b2.size)) n3)
  clear b2 n2 hr2 H2 b3 m1 m2 hHeld n3
  refine hK'.out _ _ SA (fun hHeld => ?_)
  clear hK' K'
  try simp only [Act.put, List.setIfInBounds_toArray, List.set_cons_zero, List.set_cons_succ]
  refine wpAnyH_ready (rs := [3]) (by kernel_rfl) (by simp) ?_
  refine AllReadyH.cons rfl (fun K' hK' => ?_) AllReadyH.nil
  go_simp
  refine HU.out.mono ?_
  rintro e w4 ⟨rfl, b4⟩
  have SB : w4.cell? ⟨w.heap.size, 5, none⟩ = some (.slice a L.length cap) := (cell_of_row ((b4.block w.heap.size (by omega)).trans HB.out.2) 5).trans rfl
  have HB4 := Lib.hid (HB.out.1.trans (b4.mono HB.out.1.size))
  clear b4 hHeld HU
  refine hK'.out _ _ SB (fun hHeld => ?_)
  clear hK' K'
  try simp only [Act.put, List.setIfInBounds_toArray, List.set_cons_zero, List.set_cons_succ]
  refine wpAnyH_take (i := 4) (oi := { dst := some 2, op := Op.assign (Operand.tmp 6), type := 4, pos := "codec.go:127", after := #[{ on := 3, ground := Ground.data }, { on := 3, ground := Ground.chain }, { on := 0, ground := Ground.phase }, { on := 1, ground := Ground.phase }, { on := 2, ground := Ground.phase }, { on := 3, ground := Ground.phase }], guard := none }) (v := .bool (upEntry L)) rfl (by kernel_rfl) (by kernel_rfl) (by kernel_rfl) (fun _ _ _ h => h) (Or.inl ⟨by rfl, by intro W hSw; (try dsimp only at hSw); go_simp⟩) (by assumption) ?_
  try simp only [Act.put, List.setIfInBounds_toArray, List.set_cons_zero, List.set_cons_succ]
  refine wpAnyH_done (by kernel_rfl) ?_ _
  go_wp2
  go_ret
  exact ⟨rfl, HB4.out⟩

noncomputable def writeSm (seq first : Nat) (commit : Bool) (next : Int) (time : Nat) (L : List (List FldD)) : List Nat × Int :=
  if upEntry L = false ∨ wrF (sumF seq first commit L.length next time ++ L.flatten) = true then (noughts, 1) else (sealL 3 (wrB (sumF seq first commit L.length next time ++ L.flatten)), 0)
theorem wrSm_len {seq first : Nat} {commit : Bool} {next : Int} {time : Nat} {L : List (List FldD)} (hL : ∀ x ∈ L, IsFEntry x) : (wrB (sumF seq first commit L.length next time ++ L.flatten)).length = 24 + L.length * 9 := by
  rw [wrB_length, widths_append, sumF_widths, widths_flat (W := 9) (fun x hx => isFEntry_widths (hL x hx))]

set_option maxHeartbeats 1600000 in
theorem writeSum_is {w : World} {seq first time cap : Nat} {commit : Bool} {next : Int} {L : List (List FldD)} {a : Option Addr}
    (k0 : seq < 18446744073709551616) (k1 : first < 18446744073709551616) (k3 : I64 next) (k4 : time < 4294967296) (hL : ∀ x ∈ L, IsFEntry x) (hr : ReadsR w a 4 (L.map rowV)) :
    Calls Try.prog 80 #[.int .u8 3, .agg (sumV seq first commit next time (.slice a L.length cap)), .func (.func 81) #[] #[], .func (.func 82) #[] #[]] w fun e w' => e = .returned (.tuple #[.agg (cells (writeSm seq first commit next time L).1), .int .i64 (writeSm seq first commit next time L).2]) ∧ Below w.heap.size w w' := by
  have hz := zero_sector
  have hbld := build_sector
  obtain ⟨d, hd1, hd2⟩ := row_sum
  obtain ⟨X, hX⟩ : ∃ X, sumV seq first commit next time (.slice a L.length cap) = X := ⟨_, rfl⟩
  have hXs : X.size = 6 := by rw [← hX]; rfl
  have HMAY := Lib.hid (fun (w : World) (hr : ReadsR w a 4 (L.map rowV)) => hX ▸ sumMay_is (seq := seq) (first := first) (time := time) (cap := cap) (commit := commit) (next := next) (w := w) L hL a hr)
  have HPW : Hid (∀ (w : World), L.length ≤ 200 → ReadsR w a 4 (L.map rowV) → Calls Try.prog 156 #[.agg X, .func (.func 82) #[] #[]] w fun e w' => Below w.heap.size w w' ∧
      ((wrF (sumF seq first commit L.length next time ++ L.flatten) = true ∧ e = .returned (.tuple #[.slice none 0 0, .int .i64 1])) ∨ (wrF (sumF seq first commit L.length next time ++ L.flatten) = false ∧ ∃ v, e = .returned (.tuple #[v, .int .i64 0]) ∧ Owns w.heap.size w' v (wrB (sumF seq first commit L.length next time ++ L.flatten))))) := Lib.hid (fun w hl hr => by
    rw [← hX]
    exact pwriteSum_is k0 k1 k3 k4 hL hl hr)
  have hwl := wrSm_len (seq := seq) (first := first) (commit := commit) (next := next) (time := time) hL
  have HWS : Hid (writeSm seq first commit next time L = if upEntry L = false ∨ wrF (sumF seq first commit L.length next time ++ L.flatten) = true then (noughts, 1) else (sealL 3 (wrB (sumF seq first commit L.length next time ++ L.flatten)), 0)) := rfl
  rw [hX]
  obtain ⟨F, hF⟩ : ∃ F, sumF seq first commit L.length next time ++ L.flatten = F := ⟨_, rfl⟩
  obtain ⟨R, hR⟩ : ∃ R, writeSm seq first commit next time L = R := ⟨_, rfl⟩
  rw [hF] at HPW hwl HWS
  have HWL := Lib.hid hwl
  clear hwl
  rw [hR] at HWS ⊢
  have hsi : (Try.prog.info? 48).map (·.size) = some X.toList.length := by rw [Array.length_toList, hXs]; exact size_sum
  have b1 := below_box w (.cells X 48)
  have n1 := heap_alloc_new w (.cells X 48)
  obtain ⟨w1, hw1⟩ : ∃ w1, w.alloc (.cells X 48) = w1 := ⟨_, rfl⟩
  have hs1 : w1.heap.size = w.heap.size + 1 := by rw [← hw1]; simp
  rw [hw1] at b1 n1
  have b2 := below_box w1 (.cells (cells noughts) 42)
  have n2 := heap_alloc_new w1 (.cells (cells noughts) 42)
  have n1' := (b2.block w.heap.size (by omega)).trans n1
  have hr1 := row_range n1'
  have HB := Lib.hid (below_next b1 b2)
  rw [hs1] at n2
  obtain ⟨w2, hw2⟩ : ∃ w2, w1.alloc (.cells (cells noughts) 42) = w2 := ⟨_, rfl⟩
  rw [hw2] at n2 n1' hr1 HB
  have hs2 : w2.heap.size = w.heap.size + 2 := by rw [← hw2]; simp [hs1]
  have HR := Lib.hid hr
  have HLL := Lib.hid (fun h => upEntry_len (L := L) h)
  clear b1 n1 b2 hX hF hR hr
  go_enter Try.func80, Try.ntmps80
  go_wp2_with (refine wpList_load_mid rfl 48 _ rfl w.heap.size 0 (by go_simp) X.toList d hr1 hd1 hd2 hsi ?_)
  refine (HMAY.out w2 (HR.out.below HB.out)).mono ?_
  rintro e w3 ⟨rfl, b3⟩
  have n1'' := (b3.block w.heap.size (by omega)).trans n1'
  have n2'' := (b3.block (w.heap.size + 1) (by omega)).trans n2
  have HB3 : Hid (Below w.heap.size w w3) := HB.out.trans (b3.mono HB.out.size)
  have hs3 : w.heap.size + 2 ≤ w3.heap.size := by have := b3.size; omega
  have hr3 := row_range n1''
  clear b3 n1' n2 hr1 HB hw1 hw2 hs1 hs2
  cases hm : upEntry L with
  | false =>
    have hfin : R = (noughts, 1) := HWS.out.trans (if_pos (.inl hm))
    have HF := Lib.hid hfin
    clear hfin
    have hd := setRow_heap w3 (w.heap.size + 1) _ (cells noughts) _ _ n2''
    have hb := below_setRow (g := w.heap.size + 1) HB3.out (by omega) (cells noughts)
    go_wp2_with (refine wpList_store_sector rfl _ _ rfl (w.heap.size + 1) noughts (by go_simp) (by go_simp) rfl _ _ n2'' rfl ?_)
    refine bodyPost_ret (results_sector rfl _ _ (w.heap.size + 1) noughts _ _ rfl hd rfl) rfl ?_
    exact ⟨by rw [HF.out]; rfl, hb⟩
  | true =>
    have hl8 := HLL.out hm
    go_wp2_with (refine wpList_load_mid rfl 48 _ rfl w.heap.size 0 (by go_simp) X.toList d hr3 hd1 hd2 hsi ?_)
    refine (HPW.out w3 (by omega) (HR.out.below HB3.out)).mono ?_
    rintro e w4 ⟨b4, ⟨hf, rfl⟩ | ⟨hf, v, rfl, ho⟩⟩
    · have hfin : R = (noughts, 1) := HWS.out.trans (if_pos (.inr hf))
      have HF := Lib.hid hfin
      clear hfin
      have n4 := (b4.block (w.heap.size + 1) (by omega)).trans n2''
      have hd := setRow_heap w4 (w.heap.size + 1) _ (cells noughts) _ _ n4
      have hb := below_setRow (g := w.heap.size + 1) (HB3.out.trans (b4.mono HB3.out.size)) (by omega) (cells noughts)
      clear b4 n1'' n2'' hr3 hf
      go_wp2_with (refine wpList_store_sector rfl _ _ rfl (w.heap.size + 1) noughts (by go_simp) (by go_simp) rfl _ _ n4 rfl ?_)
      refine bodyPost_ret (results_sector rfl _ _ (w.heap.size + 1) noughts _ _ rfl hd rfl) rfl ?_
      exact ⟨by rw [HF.out]; rfl, hb⟩
    · have hfin : R = (sealL 3 (wrB F), 0) := HWS.out.trans (if_neg (by rw [hm, hf]; simp))
      have HF := Lib.hid hfin
      clear hfin
      have n4 := (b4.block (w.heap.size + 1) (by omega)).trans n2''
      obtain ⟨a4, cap4, rfl, hr4, _, _⟩ := ho.reads
      have HB4 : Hid (Below w.heap.size w w4) := HB3.out.trans (b4.mono HB3.out.size)
      have hs4 := Nat.le_trans hs3 b4.size
      have hlen : (wrB F).length ≤ 120 := by rw [HWL.out]; omega
      clear b4 n1'' n2'' hr3 ho HB3 hf
      go_wp2_with fail
      refine (make_ok 3 (wrB F) a4 _ cap4 w4 hr4 hlen (by decide) (by decide)).mono ?_
      rintro e w5 ⟨rfl, b5⟩
      have n5 := (b5.block (w.heap.size + 1) (by omega)).trans n4
      have hsl := sealL_length (kind := 3) hlen
      have hd := setRow_heap w5 (w.heap.size + 1) _ (cells (sealL 3 (wrB F))) _ _ n5
      have hb := below_setRow (g := w.heap.size + 1) (HB4.out.trans (b5.mono HB4.out.size)) (by omega) (cells (sealL 3 (wrB F)))
      clear b5 n4 hr4 HB4
      go_wp2_with (refine wpList_store_sector rfl _ _ rfl (w.heap.size + 1) (sealL 3 (wrB F)) (by go_simp) (by go_simp) hsl _ _ n5 rfl ?_)
      refine bodyPost_ret (results_sector rfl _ _ (w.heap.size + 1) (sealL 3 (wrB F)) _ _ rfl hd hsl) rfl ?_
      exact ⟨by rw [HF.out]; rfl, hb⟩
end Go.Proofs.Ytplkglepbedhoaa
