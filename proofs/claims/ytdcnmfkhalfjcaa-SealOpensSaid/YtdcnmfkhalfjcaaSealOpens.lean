/- The law SealOpens is true for every input: any sector is opened to what was sealed, or is none. No condition. -/
import Derived.Test.YtdcnmfkhalfjcaaROpen
namespace Go.Proofs.Ytdcnmfkhalfjcaa
open Go.ChangeShapes Go.WideShapes Go.ChangeAt Go.RowKit
set_option linter.unusedVariables false

/-- The sum's bytes, some of them written. -/
def sumL (F : List Nat) (n k : Nat) : List Nat := F.take 124 ++ low n k ++ F.drop (124 + k)
theorem sumL_length {F : List Nat} (hF : F.length = 128) (n : Nat) {k : Nat} (hk : k ≤ 4) : (sumL F n k).length = 128 := by
  simp [sumL, low_length]; omega
theorem sumL_bytes {F : List Nat} (hF : Bytes F) (n k : Nat) : Bytes (sumL F n k) := ((hF.take 124).append (low_bytes n k)).append (hF.drop _)
theorem sumL_zero (F : List Nat) (n : Nat) : sumL F n 0 = F := by simp [sumL, low]
theorem sumL_step {F : List Nat} (hF : F.length = 128) (n : Nat) {k : Nat} (hk : k < 4) : (sumL F n k).set (124 + k) (n / 256 ^ k % 256) = sumL F n (k + 1) := by
  have hl : (F.take 124 ++ low n k).length = 124 + k := by simp [low_length]; omega
  unfold sumL
  rw [List.set_append_right _ _ (by omega), hl, Nat.sub_self, List.drop_eq_getElem_cons (show 124 + k < F.length by omega), List.set_cons_zero, low_snoc]
  simp [Nat.add_assoc]

theorem reads_block {wk : World} {g : Nat} {s : List Nat} {t : TypeId} (hs : s.length = 128) (hb : Bytes s) (h : wk.heap[g]? = some (.cells (cells s) t (0, 0))) (k : Nat) (hk : k ≤ 128) : Reads wk (some ⟨g, 0, none⟩) k (s.take k) := by
  refine ⟨by simp; omega, hb.take k, .inr ⟨g, 0, rfl, (Array.getElem?_eq_some_iff.1 h).1, fun i hi => ?_⟩⟩
  rw [block_cells hs h i (by omega)]
  simp [byteV, List.getD, hi]

set_option maxHeartbeats 1600000 in
set_option maxRecDepth 100000 in
theorem sealOpens_walk (b : Option Addr) (lb cb : Nat) (B : List Nat) (p : Bool) (w : World) (hrb : Reads w b lb B) (hlb : lb ≤ cb) (hcb : cb ≤ 140737488351232) :
    Calls Try.prog 9 #[.slice b lb cb, .bool p] w fun e w' => e = .returned (.bool true) ∧ Below w.heap.size w w' := by
  have hzf := zero_full
  go_enter Try.func9, Try.ntmps9
  go_wp2_with fail
  refine (awake2_true _).mono ?_
  rintro e w1 ⟨rfl, hb⟩
  have hrb1 := hrb.below hb
  clear hrb
  go_wp2_with fail
  refine (full_any b lb cb B w1 hrb1 (by unfold maxLen; omega)).mono ?_
  rintro e w2 ⟨rfl, b2⟩
  have HF := Lib.hid (fullL_length B)
  have HFB := Lib.hid (fullL_bytes hrb1.2.1)
  generalize fullL B = F at *
  have bw2 := hb.trans (b2.mono hb.size)
  have hs2 := bw2.size
  have bw3 := bw2.alloc hs2 (.cells (cells F) 40)
  have hg3 := heap_alloc_new w2 (.cells (cells F) 40)
  clear hrb1 hb b2 bw2
  go_upto_if 18 with (refine wpList_store_full rfl (.tmp 5) (.tmp 17) rfl w2.heap.size F rfl rfl HF.out _ _ (heap_alloc_new w2 _) rfl ?_; rw [World.setRow_alloc_new]; generalize w2.alloc (.cells (cells F) 40) = w3 at *)
  go_cut [6, 7] (fun c i wx => Below w.heap.size w wx ∧ ∃ S, S.length = 128 ∧ Bytes S ∧ wx.heap[w2.heap.size]? = some (.cells (cells S) 40 (0, 0)))
  case first =>
    cases p with
    | false =>
      go_wp2
      go_meet
      exact ⟨bw3, F, HF.out, HFB.out, hg3⟩
    | true =>
      have hrd := reads_block HF.out HFB.out hg3 124 (by decide)
      have hz0 := (sumL_zero F (crc (F.take 124)))
      go_wp2_with fail
      refine (rcrc_any _ 124 128 _ w3 hrd (by decide)).mono ?_
      rintro e w4 ⟨rfl, rfl⟩
      have hcl := crc_lt (F.take 124)
      generalize crc (F.take 124) = n at *
      rw [← hz0] at hg3
      clear hz0 hrd
      go_wp2
      go_loopw [7] (fun i wr => ∃ k : Nat, k ≤ 4 ∧ i = .int .i64 k ∧ Below w.heap.size w wr ∧ wr.heap[w2.heap.size]? = some (.cells (cells (sumL F n k)) 40 (0, 0))) (fun i _ => 4 - (intOf i).toNat)
      case atStart => exact ⟨0, by omega, rfl, bw3, hg3⟩
      case round =>
        obtain ⟨k, hk, rfl, hbw, hg⟩ := hrel
        by_cases hlt : k < 4
        · have hfz : wr.frozen? ⟨w2.heap.size, 124 + k, none⟩ = false := frozen_of_row _ _ _ _ _ hg
          have hck := block_cells (sumL_length HF.out n hk) hg (124 + k) (by omega)
          rw [Nat.zero_add] at hck
          have hg' : (wr.setCell ⟨w2.heap.size, 124 + k, none⟩ (.int .u8 ((n / 256 ^ k % 256 : Nat) : Int))).heap[w2.heap.size]? = some (.cells (cells (sumL F n (k + 1))) 40 (0, 0)) := by
            rw [heap_setCell_same _ _ _ _ _ _ hg, ← sumL_step HF.out n hlt]
            exact congrArg (fun x => some (Obj.cells x 40 (0, 0))) (cells_put _ _ _)
          have hb' := hbw.setCell (p := ⟨w2.heap.size, 124 + k, none⟩) hs2 (.int .u8 ((n / 256 ^ k % 256 : Nat) : Int))
          rw [← byte_of] at hg' hb'
          have HG := Lib.hid hg'
          have HB := Lib.hid hb'
          clear hg hg' hb' hbw
          go_wp2
          go_roundw
          case rel => exact ⟨k + 1, by omega, by go_num, HB.out, HG.out⟩
          case measure => simp [intOf]; omega
        · go_wp2
          go_meet
          exact ⟨hbw, _, sumL_length HF.out n hk, sumL_bytes HFB.out n k, hg⟩
  case rest =>
    obtain ⟨hbw, S, hs, hsb, hg⟩ := hcut
    have HS := Lib.hid hs
    have HSB := Lib.hid hsb
    clear hs hsb hs2 hlb hcb
    go_wp2_with (refine wpList_load_full rfl (.tmp 5) rfl w2.heap.size 0 _ rfl HS.out (block_cells HS.out hg) ?_)
    refine (open_any S HS.out HSB.out wc).mono ?_
    rintro e w5 ⟨b5, h5⟩
    have hg5 : w5.heap[w2.heap.size]? = some (.cells (cells S) 40 (0, 0)) := by rw [b5.block _ (Array.getElem?_eq_some_iff.1 hg).1]; exact hg
    have bw5 := hbw.trans (b5.mono hbw.size)
    clear hbw hg b5
    rcases h5 with ⟨ho, a5, c5, rfl, hrd5⟩ | ⟨ho, rfl⟩
    · go_wp2_with (refine wpList_load_full rfl (.tmp 5) rfl w2.heap.size 0 _ rfl HS.out (block_cells HS.out hg5) ?_)
      refine (ropen_any S HS.out HSB.out w5).mono ?_
      rintro e w6 ⟨b6, h6⟩
      have hg6 : w6.heap[w2.heap.size]? = some (.cells (cells S) 40 (0, 0)) := by rw [b6.block _ (Array.getElem?_eq_some_iff.1 hg5).1]; exact hg5
      have bw6 := bw5.trans (b6.mono bw5.size)
      have hrd56 := hrd5.below b6
      clear bw5 hg5 b6 hrd5
      rcases h6 with ⟨ho6, a6, c6, rfl, hrd6⟩ | ⟨ho6, rfl⟩
      · have hI : isB S 5 = decide (kindL S = 5) := by unfold isB; rw [ho]; rfl
        have hbl : (bodyL S).length ≤ maxLen := by have := bodyOf_length S 4 (S.getD 3 0); unfold bodyL maxLen; omega
        have HBL := Lib.hid hbl
        clear ho ho6 hbl
        obtain ⟨kd, hkd⟩ : ∃ kd, kindL S = kd := ⟨_, rfl⟩
        rw [hkd] at hI ⊢
        have hkk : ((kd : Int) == kd) = true := by simp
        obtain ⟨bd, hbd⟩ : ∃ bd, bodyL S = bd := ⟨_, rfl⟩
        rw [hbd] at hrd56 hrd6 HBL ⊢
        have HI := Lib.hid hI
        clear hkd hI hbd
        go_wp2_with fail
        refine (equal_any _ _ _ _ _ _ bd bd _ hrd56 hrd6 HBL.out).mono ?_
        rintro e w7 ⟨rfl, nq, hw7⟩
        rw [same_self]
        have bw7 : Below w.heap.size w w7 := by rw [← hw7]; exact below_drawn bw6 nq
        have hg7 : w7.heap[w2.heap.size]? = some (.cells (cells S) 40 (0, 0)) := by rw [← hw7]; exact hg6
        clear hw7 hrd56 hrd6 bw6 hg6
        go_wp2_with (refine wpList_load_full_want rfl (.tmp 5) rfl w2.heap.size 0 _ rfl HS.out (block_cells HS.out hg7) ?_)
        refine (is_any S 5 HS.out HSB.out w7).mono ?_
        rintro e w8 ⟨rfl, b8⟩
        rw [HI.out]
        have bw8 := bw7.trans (b8.mono bw7.size)
        clear b8 bw7 hg7 HI
        by_cases hE : kd = 5
        · have ht : ((kd : Int) == 5) = true := by simp [hE]
          rw [decide_eq_true hE]
          clear hE
          go_wp2
          go_ret
          exact ⟨rfl, bw8⟩
        · have ht : ((kd : Int) == 5) = false := by simp; omega
          rw [decide_eq_false hE]
          clear hE
          go_wp2
          go_ret
          exact ⟨rfl, bw8⟩
      · exfalso
        rw [ho] at ho6
        exact absurd ho6 (by decide)
    · go_wp2_with (refine wpList_load_full rfl (.tmp 5) rfl w2.heap.size 0 _ rfl HS.out (block_cells HS.out hg5) ?_)
      refine (ropen_any S HS.out HSB.out w5).mono ?_
      rintro e w6 ⟨b6, h6⟩
      have hg6 : w6.heap[w2.heap.size]? = some (.cells (cells S) 40 (0, 0)) := by rw [b6.block _ (Array.getElem?_eq_some_iff.1 hg5).1]; exact hg5
      have bw6 := bw5.trans (b6.mono bw5.size)
      clear bw5 hg5 b6
      rcases h6 with ⟨ho6, a6, c6, rfl, hrd6⟩ | ⟨ho6, rfl⟩
      · exfalso
        rw [ho] at ho6
        exact absurd ho6 (by decide)
      · have hI : isB S 5 = false := by unfold isB; rw [ho]; rfl
        have HI := Lib.hid hI
        have hrn : Reads w6 none 0 [] := ⟨rfl, by intro x hx; simp at hx, .inl rfl⟩
        clear ho ho6 hI
        go_wp2_with fail
        refine (equal_any _ _ _ _ _ _ [] [] _ hrn hrn (by decide)).mono ?_
        rintro e w7 ⟨rfl, nq, hw7⟩
        rw [same_self]
        have bw7 : Below w.heap.size w w7 := by rw [← hw7]; exact below_drawn bw6 nq
        have hg7 : w7.heap[w2.heap.size]? = some (.cells (cells S) 40 (0, 0)) := by rw [← hw7]; exact hg6
        clear hw7 hrn bw6 hg6
        go_wp2_with (refine wpList_load_full_want rfl (.tmp 5) rfl w2.heap.size 0 _ rfl HS.out (block_cells HS.out hg7) ?_)
        refine (is_any S 5 HS.out HSB.out w7).mono ?_
        rintro e w8 ⟨rfl, b8⟩
        rw [HI.out]
        have bw8 := bw7.trans (b8.mono bw7.size)
        clear b8 bw7 hg7 HI
        go_wp2
        go_ret
        exact ⟨rfl, bw8⟩
set_option maxRecDepth 100000 in
theorem sealOpens_lifted (os : Os) (started : os.Started) (H : Type) (enc : TypeId × Value → H) :
    ReturnsInHanded {} Try.checked os 9 .any (Rows.sealOpensSpec.pre6 enc Try.prog Try.f9 Rows.sealOpensRow.domain false) (Rows.sealOpensSpec.post enc Try.prog Try.f9 false true false false) :=
  law_lifted (s := Rows.sealOpensSpec) started Try.func9 (by kernel_rfl) rfl (fun ds hd => by
        match ds, hd with
        | [_, _], _ => rfl) rfl
      (of_decide_eq_true (by kernel_rfl))
      (ChangeSpec.witness6 (enc := enc) (C := Try.checked) false ⟨#[], #[.slice none 0 0, .bool false], []⟩ 8 (by kernel_rfl) (by kernel_rfl) (by kernel_rfl) (by kernel_rfl))
      (fun W base args ds ps hval hA hsz => by
        rw [Try.params9] at hA hval hsz
        obtain ⟨v0, vs0, d0, ds0, p0, q0, hargs, rfl, rfl, h0, r0⟩ := trodAll_cons hA
        obtain ⟨v1, vs1, d1, ds1, p1, q1, rfl, rfl, rfl, h1, r1⟩ := trodAll_cons r0
        obtain ⟨rfl, rfl, rfl⟩ := trodAll_nil r1
        obtain rfl : args = #[v0, v1] := by cases args; simp_all
        simp only [DataW.weightsEach, List.all_append, Bool.and_eq_true] at hsz
        obtain ⟨z0, z1, _⟩ := hsz
        obtain ⟨b, lb, cb, B, rfl, hrb, hlb, hcb⟩ := open_bytes (hval 0 22 v0 rfl rfl) h0 z0
        obtain ⟨p, rfl, rfl, rfl⟩ := open_bool Try.underlying4 (hval 1 4 v1 rfl rfl) h1
        exact sealOpens_walk b lb cb B p W hrb hlb hcb)

theorem sealOpens_holds : Rows.SealOpensSaid :=
  OpenClaim.holds_of_wide 9 Try.f9 rfl rfl rfl rfl rfl rfl rfl ⟨rfl, rfl, rfl, rfl, rfl⟩ rfl rfl rfl rfl rfl (by kernel_rfl) Try.func9 (by kernel_rfl)
    (of_decide_eq_true (by kernel_rfl)) (by unfold Func.isWrapper; first | (rw [if_pos (by decide +kernel)]; kernel_rfl) | (rw [if_neg (by decide +kernel)]; exact ⟨rfl, rfl⟩))
    (fun os started H enc _ => sealOpens_lifted os started H enc)
#print axioms sealOpens_holds
end Go.Proofs.Ytdcnmfkhalfjcaa
