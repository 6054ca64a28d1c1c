/- The law SealMakes is true for every input: a sector is sealed just as the document says, and opened again. No condition. -/
import Derived.Test.YtdcnmfkhalfjcaaRMake
namespace Go.Proofs.Ytdcnmfkhalfjcaa
open Go.ChangeShapes Go.WideShapes Go.ChangeAt Go.RowKit
set_option linter.unusedVariables false

set_option maxHeartbeats 1600000 in
set_option maxRecDepth 100000 in
theorem sealMakes_walk (k : Nat) (hk : k < 256) (b : Option Addr) (lb cb : Nat) (B : List Nat) (w : World) (hrb : Reads w b lb B) (hlb : lb ≤ cb) (hcb : cb ≤ 140737488351232) :
    Calls Try.prog 8 #[.int .u8 k, .slice b lb cb] w fun e w' => e = .returned (.bool true) ∧ Below w.heap.size w w' := by
  obtain rfl : lb = B.length := hrb.1.symm
  have hz := zero_sector
  have hzf := zero_full
  go_enter Try.func8, Try.ntmps8
  go_wp2_with fail
  refine (awake2_true _).mono ?_
  rintro e w1 ⟨rfl, hb⟩
  have hrb1 := hrb.below hb
  clear hrb
  go_upto_if 16 with (fail)
  go_cut [1] (fun s wx => w1 = wx ∧ ∃ k, k ≤ 300 ∧ s = .slice b k cb ∧ Reads w1 b k (B.take 300))
  case first =>
    by_cases h40 : 300 < B.length
    · go_wp2
      go_meet
      exact ⟨rfl, 300, by omega, rfl, hrb1.take 300 (by omega)⟩
    · go_wp2
      go_meet
      exact ⟨rfl, B.length, by omega, rfl, by rw [List.take_of_length_le (by omega)]; exact hrb1⟩
  case rest =>
    obtain ⟨rfl, ka, hka, rfl, hrb2⟩ := hcut
    clear hrb1 hlb
    generalize B.take 300 = B at *
    obtain rfl : ka = B.length := hrb2.1.symm
    have hmax : B.length ≤ maxLen := by unfold maxLen; omega
    go_wp2_with fail
    refine (copy_any b B.length cb B w1 hrb2 (by omega)).mono ?_
    rintro e w2 ⟨v2, rfl, ho2, b2⟩
    obtain ⟨a2, c2, rfl, hrw2, _, _⟩ := ho2.reads
    have hrx2 := hrb2.below b2
    have bw2 := hb.trans (b2.mono hb.size)
    clear ho2 hrb2 hb b2
    by_cases hmk : k = 0 ∨ 120 < B.length
    · go_wp2_with fail
      refine (make_no k B _ _ _ _ hrx2 hmax hk hmk).mono ?_
      rintro e w3 ⟨rfl, b3⟩
      have hs3 := b3.size
      have hrx4 := (hrx2.below b3).alloc (.cells (cells noughts) 41)
      have hrw4 := (hrw2.below b3).alloc (.cells (cells noughts) 41)
      have bw4 := (bw2.trans (b3.mono bw2.size)).alloc (by have := bw2.size; omega) (.cells (cells noughts) 41)
      have hg4 := heap_alloc_new w3 (.cells (cells noughts) 41)
      have hl4 : w3.heap.size < (w3.alloc (.cells (cells noughts) 41)).heap.size := by simp
      clear hrx2 hrw2 bw2 b3 hs3
      go_wp2_with (refine wpList_store_sector rfl (.tmp 6) (.tmp 25) rfl w3.heap.size noughts rfl rfl rfl _ _ (heap_alloc_new w3 _) rfl ?_; rw [World.setRow_alloc_new]; generalize w3.alloc (.cells (cells noughts) 41) = w4 at *)
      refine (rmake_no k B _ _ _ _ hmax hmk).mono ?_
      rintro e w5 ⟨rfl, b5⟩
      have hg5 : w5.heap[w3.heap.size]? = some (.cells (cells noughts) 41 (0, 0)) := by rw [b5.block _ hl4]; exact hg4
      have hl5 : w3.heap.size < w5.heap.size := (Array.getElem?_eq_some_iff.1 hg5).1
      have hg6 : (w5.alloc (.cells (cells noughts) 40)).heap[w3.heap.size]? = some (.cells (cells noughts) 41 (0, 0)) := by rw [Below.heap_alloc w5 _ _ hl5]; exact hg5
      have hg6' := heap_alloc_new w5 (.cells (cells noughts) 40)
      have hrx6 := (hrx4.below b5).alloc (.cells (cells noughts) 40)
      have hrw6 := (hrw4.below b5).alloc (.cells (cells noughts) 40)
      have bw5 := bw4.trans (b5.mono bw4.size)
      have bw6 := bw5.alloc bw5.size (.cells (cells noughts) 40)
      have hneq := run_neq_sector noughts noughts rfl rfl
      simp only [decide_true, Bool.not_true] at hneq
      clear hrx4 hrw4 b5 bw4 hg4 hl4 hg5 bw5 hmk
      go_wp2_with (first | (refine wpList_store_full rfl (.tmp 8) (.tmp 31) rfl w5.heap.size noughts rfl rfl rfl _ _ (heap_alloc_new w5 _) rfl ?_; rw [World.setRow_alloc_new]; generalize w5.alloc (.cells (cells noughts) 40) = w6 at *) | (refine wpList_load_sector_want rfl (.tmp 6) rfl w3.heap.size 0 _ rfl rfl (block_cells rfl hg6) ?_) | (refine wpList_load_full_want rfl (.tmp 8) rfl w5.heap.size 0 _ rfl rfl (block_cells rfl hg6') ?_))
      refine (equal_any _ _ _ _ _ _ B B _ hrx6 hrw6 hmax).mono ?_
      rintro e w7 ⟨rfl, nq, hw7⟩
      rw [same_self]
      have bw7 : Below w.heap.size w w7 := by rw [← hw7]; exact below_drawn bw6 nq
      clear hw7 hrx6 hrw6 bw6 hg6 hg6' hneq
      go_wp2
      go_ret
      exact ⟨rfl, bw7⟩
    · have hkn : k ≠ 0 := fun h => hmk (.inl h)
      have hbl : B.length ≤ 120 := by omega
      have hbb := hrx2.2.1
      have HSL := Lib.hid (sealL_length (kind := k) hbl)
      have HSB := Lib.hid (sealL_bytes hk hbb hbl)
      have HO := Lib.hid (openB_sealL (b := B) hkn hbl)
      have HK := Lib.hid (sealL_kind k B)
      have HBD := Lib.hid (sealL_body k B hbl)
      clear hmk
      go_wp2_with fail
      refine (make_ok k B _ _ _ _ hrx2 hbl hk hkn).mono ?_
      rintro e w3 ⟨rfl, b3⟩
      have hrx3 := hrx2.below b3
      have hrm := fun (W : World) (h : Reads W b B.length B) => rmake_ok k B b B.length cb W h hbl hk hkn
      have HRM := Lib.hid hrm
      generalize sealL k B = S at *
      have hs3 := b3.size
      have hrx4 := hrx3.alloc (.cells (cells S) 41)
      have hrw4 := (hrw2.below b3).alloc (.cells (cells S) 41)
      have bw4 := (bw2.trans (b3.mono bw2.size)).alloc (by have := bw2.size; omega) (.cells (cells S) 41)
      have hg4 := heap_alloc_new w3 (.cells (cells S) 41)
      have hl4 : w3.heap.size < (w3.alloc (.cells (cells S) 41)).heap.size := by simp
      clear hrx2 hrx3 hrw2 bw2 b3 hs3 hrm
      go_wp2_with (refine wpList_store_sector rfl (.tmp 6) (.tmp 25) rfl w3.heap.size S rfl rfl HSL.out _ _ (heap_alloc_new w3 _) rfl ?_; rw [World.setRow_alloc_new]; generalize w3.alloc (.cells (cells S) 41) = w4 at *)
      refine (HRM.out _ hrx4).mono ?_
      rintro e w5 ⟨rfl, b5⟩
      have hg5 : w5.heap[w3.heap.size]? = some (.cells (cells S) 41 (0, 0)) := by rw [b5.block _ hl4]; exact hg4
      have hl5 : w3.heap.size < w5.heap.size := (Array.getElem?_eq_some_iff.1 hg5).1
      have hg6 : (w5.alloc (.cells (cells S) 40)).heap[w3.heap.size]? = some (.cells (cells S) 41 (0, 0)) := by rw [Below.heap_alloc w5 _ _ hl5]; exact hg5
      have hg6' := heap_alloc_new w5 (.cells (cells S) 40)
      have hrx6 := (hrx4.below b5).alloc (.cells (cells S) 40)
      have hrw6 := (hrw4.below b5).alloc (.cells (cells S) 40)
      have bw5 := bw4.trans (b5.mono bw4.size)
      have bw6 := bw5.alloc bw5.size (.cells (cells S) 40)
      have hneq := run_neq_sector S S HSL.out HSL.out
      simp only [decide_true, Bool.not_true] at hneq
      clear hrx4 hrw4 b5 bw4 hg4 hl4 hg5 bw5 HRM
      go_wp2_with (first | (refine wpList_store_full rfl (.tmp 8) (.tmp 31) rfl w5.heap.size S rfl rfl HSL.out _ _ (heap_alloc_new w5 _) rfl ?_; rw [World.setRow_alloc_new]; generalize w5.alloc (.cells (cells S) 40) = w6 at *) | (refine wpList_load_sector_want rfl (.tmp 6) rfl w3.heap.size 0 _ rfl HSL.out (block_cells HSL.out hg6) ?_) | (refine wpList_load_full_want rfl (.tmp 8) rfl w5.heap.size 0 _ rfl HSL.out (block_cells HSL.out hg6') ?_))
      refine (equal_any _ _ _ _ _ _ B B _ hrx6 hrw6 hmax).mono ?_
      rintro e w7 ⟨rfl, nq, hw7⟩
      rw [same_self]
      have bw7 : Below w.heap.size w w7 := by rw [← hw7]; exact below_drawn bw6 nq
      have hg7 : w7.heap[w3.heap.size]? = some (.cells (cells S) 41 (0, 0)) := by rw [← hw7]; exact hg6
      have hrx7 : Reads w7 b B.length B := by rw [← hw7]; exact hrx6.below (below_drawn (Below.refl _ _) nq)
      clear hw7 hrx6 hrw6 bw6 hg6 hg6' hneq
      go_wp2_with (refine wpList_load_sector rfl (.tmp 6) rfl w3.heap.size 0 _ rfl HSL.out (block_cells HSL.out hg7) ?_)
      refine (open_any S HSL.out HSB.out w7).mono ?_
      rintro e w8 ⟨b8, h8⟩
      rcases h8 with ⟨ho, a8, c8, rfl, hrd8⟩ | ⟨ho, rfl⟩
      · rw [HK.out, HBD.out]
        rw [HBD.out] at hrd8
        have hg8 : w8.heap[w3.heap.size]? = some (.cells (cells S) 41 (0, 0)) := by rw [b8.block _ (Array.getElem?_eq_some_iff.1 hg7).1]; exact hg7
        have hrx8 := hrx7.below b8
        have bw8 := bw7.trans (b8.mono bw7.size)
        have hkk : ((k : Int) == k) = true := by simp
        have HI1 : Hid (isB S k = true) := by show _ = _; unfold isB; rw [HO.out, HK.out]; simp
        clear b8 bw7 hg7 hrx7 ho HBD
        go_wp2_with fail
        refine (equal_any _ _ _ _ _ _ B B _ hrd8 hrx8 hmax).mono ?_
        rintro e w9 ⟨rfl, nq9, hw9⟩
        rw [same_self]
        have bw9 : Below w.heap.size w w9 := by rw [← hw9]; exact below_drawn bw8 nq9
        have hg9 : w9.heap[w3.heap.size]? = some (.cells (cells S) 41 (0, 0)) := by rw [← hw9]; exact hg8
        clear hw9 hrd8 hrx8 bw8 hg8
        go_wp2_with (refine wpList_load_sector_want rfl (.tmp 6) rfl w3.heap.size 0 _ rfl HSL.out (block_cells HSL.out hg9) ?_)
        refine (is_any S k HSL.out HSB.out w9).mono ?_
        rintro e w10 ⟨rfl, b10⟩
        rw [HI1.out]
        have hg10 : w10.heap[w3.heap.size]? = some (.cells (cells S) 41 (0, 0)) := by rw [b10.block _ (Array.getElem?_eq_some_iff.1 hg9).1]; exact hg9
        have bw10 := bw9.trans (b10.mono bw9.size)
        clear b10 bw9 hg9 HI1
        obtain ⟨k1, hk1⟩ := Int.eq_ofNat_of_zero_le (show 0 ≤ ((k : Int) + 1) % 256 by omega)
        have HI2 : Hid (isB S k1 = false) := by show _ = _; unfold isB; rw [HK.out, decide_eq_false (by omega)]; simp
        go_wp2_with (refine wpList_load_sector_want rfl (.tmp 6) rfl w3.heap.size 0 _ rfl HSL.out (block_cells HSL.out hg10) ?_)
        refine (is_any S k1 HSL.out HSB.out w10).mono ?_
        rintro e w11 ⟨rfl, b11⟩
        rw [HI2.out]
        have bw11 := bw10.trans (b11.mono bw10.size)
        clear b11 bw10 hg10 HI2
        go_wp2
        go_ret
        exact ⟨rfl, bw11⟩
      · exfalso
        rw [HO.out] at ho
        exact absurd ho (by decide)
set_option maxRecDepth 100000 in
theorem sealMakes_lifted (os : Os) (started : os.Started) (H : Type) (enc : TypeId × Value → H) :
    ReturnsInHanded {} Try.checked os 8 .any (Rows.sealMakesSpec.pre6 enc Try.prog Try.f8 Rows.sealMakesRow.domain false) (Rows.sealMakesSpec.post enc Try.prog Try.f8 false true false false) :=
  law_lifted (s := Rows.sealMakesSpec) started Try.func8 (by kernel_rfl) rfl (fun ds hd => by
        match ds, hd with
        | [_, _], _ => rfl) rfl
      (of_decide_eq_true (by kernel_rfl))
      (ChangeSpec.witness6 (enc := enc) (C := Try.checked) false ⟨#[], #[.int .u8 0, .slice none 0 0], []⟩ 8 (by kernel_rfl) (by kernel_rfl) (by kernel_rfl) (by kernel_rfl))
      (fun W base args ds ps hval hA hsz => by
        rw [Try.params8] at hA hval hsz
        obtain ⟨v0, vs0, d0, ds0, p0, q0, hargs, rfl, rfl, h0, r0⟩ := trodAll_cons hA
        obtain ⟨v1, vs1, d1, ds1, p1, q1, rfl, rfl, rfl, h1, r1⟩ := trodAll_cons r0
        obtain ⟨rfl, rfl, rfl⟩ := trodAll_nil r1
        obtain rfl : args = #[v0, v1] := by cases args; simp_all
        simp only [DataW.weightsEach, List.all_append, Bool.and_eq_true] at hsz
        obtain ⟨z0, z1, _⟩ := hsz
        obtain ⟨k, rfl, rfl, rfl, wk⟩ := open_int Try.underlying5 (hval 0 5 v0 rfl rfl) h0
        obtain ⟨b, lb, cb, B, rfl, hrb, hlb, hcb⟩ := open_bytes (hval 1 22 v1 rfl rfl) h1 z1
        obtain ⟨k0, k1⟩ := u8_of_wf wk
        obtain ⟨k, rfl⟩ := Int.eq_ofNat_of_zero_le k0
        exact sealMakes_walk k (by omega) b lb cb B W hrb hlb hcb)

theorem sealMakes_holds : Rows.SealMakesSaid :=
  OpenClaim.holds_of_wide 8 Try.f8 rfl rfl rfl rfl rfl rfl rfl ⟨rfl, rfl, rfl, rfl, rfl⟩ rfl rfl rfl rfl rfl (by kernel_rfl) Try.func8 (by kernel_rfl)
    (of_decide_eq_true (by kernel_rfl)) (by unfold Func.isWrapper; first | (rw [if_pos (by decide +kernel)]; kernel_rfl) | (rw [if_neg (by decide +kernel)]; exact ⟨rfl, rfl⟩))
    (fun os started H enc _ => sealMakes_lifted os started H enc)
#print axioms sealMakes_holds
end Go.Proofs.Ytdcnmfkhalfjcaa
