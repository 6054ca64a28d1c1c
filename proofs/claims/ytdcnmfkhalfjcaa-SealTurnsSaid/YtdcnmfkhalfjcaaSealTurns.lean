/- The law SealTurns is true for every input: a sealed sector with one byte that is another one is none. No condition. -/
import Derived.Test.YtdcnmfkhalfjcaaLaw2
import Derived.Test.YtdcnmfkhalfjcaaCrcTurn
namespace Go.Proofs.Ytdcnmfkhalfjcaa
open Go.ChangeShapes Go.WideShapes Go.ChangeAt Go.RowKit
set_option linter.unusedVariables false

theorem cells_set (s : List Nat) (i v : Nat) : (cells s).setIfInBounds i (byteV v) = cells (s.set i v) := by
  simp [cells, List.map_set]

theorem turn_at (x : Int) : ∃ i : Nat, Int.tmod (Int.tmod x 128 + 128) 128 = (i : Int) ∧ i < 128 ∧ -128 < Int.tmod x 128 ∧ Int.tmod x 128 < 128 := by
  have h1 : -128 < Int.tmod x 128 := by have := Int.lt_tmod_of_pos x (b := 128) (by decide); omega
  have h2 : Int.tmod x 128 < 128 := Int.tmod_lt_of_pos x (by decide)
  refine ⟨((Int.tmod x 128 + 128) % 128).toNat, ?_, by omega, h1, h2⟩
  rw [Int.tmod_eq_emod_of_nonneg (by omega)]
  omega

set_option maxHeartbeats 1600000 in
set_option maxRecDepth 100000 in
theorem sealTurns_walk (k : Nat) (hk : k < 256) (b : Option Addr) (lb cb : Nat) (B : List Nat) (x y : Int) (hx : I64 x) (hy : I64 y) (w : World) (hrb : Reads w b lb B) (hlb : lb ≤ cb) (hcb : cb ≤ 140737488351232) :
    Calls Try.prog 10 #[.int .u8 k, .slice b lb cb, .agg #[.int .i64 x, .int .i64 y]] w fun e w' => e = .returned (.bool true) ∧ Below w.heap.size w w' := by
  obtain rfl : lb = B.length := hrb.1.symm
  have hz := zero_sector
  obtain ⟨x1, x2⟩ := hx
  obtain ⟨y1, y2⟩ := hy
  go_enter Try.func10, Try.ntmps10
  go_wp2_with fail
  refine (awake2_true _).mono ?_
  rintro e w1 ⟨rfl, hb1⟩
  obtain ⟨c0, c1, hb, hs1⟩ := boxed2 hb1
  clear hb1
  have hrb1 := hrb.below hb
  clear hrb
  go_upto_if 17 with (fail)
  go_cut [1] (fun s wx => w1 = wx ∧ ∃ k, k ≤ 300 ∧ s = .slice b k cb ∧ Reads w1 b k (B.take 300))
  case first =>
    by_cases h40 : 300 < B.length
    · go_wp2
      go_meet
      exact ⟨rfl, 300, by omega, rfl, hrb1.take 300 (by omega)⟩
    · go_wp2
      go_meet
      exact ⟨rfl, B.length, by omega, rfl, by rw [List.take_of_length_le (by omega)]; exact hrb1⟩
  case rest =>
    obtain ⟨rfl, ka, hka, rfl, hrb2⟩ := hcut
    clear hrb1 hlb
    generalize B.take 300 = B at *
    obtain rfl : ka = B.length := hrb2.1.symm
    by_cases hmk : k = 0 ∨ 120 < B.length
    · go_wp2_with fail
      refine (make_no k B _ _ _ _ hrb2 (by unfold maxLen; omega) hk hmk).mono ?_
      rintro e w2 ⟨rfl, b2⟩
      have b3 := (hb.trans (b2.mono hb.size)).alloc (by have := hb.size; have := b2.size; omega) (.cells (cells noughts) 41)
      clear hmk c0 c1 hb b2
      go_wp2_with (refine wpList_store_sector rfl (.tmp 7) (.tmp 24) rfl w2.heap.size noughts rfl rfl rfl _ _ (heap_alloc_new w2 _) rfl ?_; rw [World.setRow_alloc_new]; generalize w2.alloc (.cells (cells noughts) 41) = w3 at *)
      go_ret
      exact ⟨rfl, b3⟩
    · have hkn : k ≠ 0 := fun h => hmk (.inl h)
      have hbl : B.length ≤ 120 := by omega
      clear hmk
      have hbb := hrb2.2.1
      obtain ⟨i, hi, hil, m1, m2⟩ := turn_at x
      obtain ⟨v, hv⟩ := Int.eq_ofNat_of_zero_le (show 0 ≤ y % 256 by omega)
      have hvl : v < 256 := by omega
      have HT := Lib.hid (fun hne => openB_turn (b := B) hk hbb hbl hil hvl hne)
      have HO := Lib.hid (openB_sealL (b := B) hkn hbl)
      have hsl := sealL_length (kind := k) hbl
      have hsb := sealL_bytes hk hbb hbl
      go_wp2_with fail
      refine (make_ok k B _ _ _ _ hrb2 hbl hk hkn).mono ?_
      rintro e w2 ⟨rfl, b2⟩
      generalize sealL k B = s at *
      have hs2 := b2.size
      have b3 := (b2.alloc hs2 (.cells (cells s) 41))
      have d0 := (b3.cell (p := ⟨w.heap.size, 0, none⟩) hs1).trans c0
      have d1 := (b3.cell (p := ⟨w.heap.size, 1, none⟩) hs1).trans c1
      have hg3 := heap_alloc_new w2 (.cells (cells s) 41)
      have hci := kept_cells hsl hg3 i hil
      rw [Nat.zero_add] at hci
      have bw3 := hb.trans (b3.mono hb.size)
      have hlt : w.heap.size < w2.heap.size := by omega
      clear c0 c1 hb b2 b3 hrb2 hs2 hbl hkn hbb
      obtain ⟨c, hc⟩ : ∃ c, s.getD i 0 = c := ⟨_, rfl⟩
      rw [hc] at hci HT
      replace hci : (w2.alloc (.cells (cells s) 41)).cell? ⟨w2.heap.size, i, none⟩ = some (.int .u8 (c : Nat)) := hci
      have HC := Lib.hid hc
      have HSL := Lib.hid hsl
      have HSB := Lib.hid hsb
      clear hc hsl hsb
      have hfz : (w2.alloc (.cells (cells s) 41)).frozen? ⟨w2.heap.size, i, none⟩ = false := frozen_of_row _ _ _ _ _ hg3
      have hg4 : ((w2.alloc (.cells (cells s) 41)).setCell ⟨w2.heap.size, i, none⟩ (.int .u8 (v : Nat))).heap[w2.heap.size]? = some (.cells (cells (s.set i v)) 41 (0, 0)) := by
        rw [heap_setCell_same _ _ _ _ _ _ hg3]
        exact congrArg (fun x => some (Obj.cells x 41 (0, 0))) (cells_set s i v)
      have bw4 : Below w.heap.size w ((w2.alloc (.cells (cells s) 41)).setCell ⟨w2.heap.size, i, none⟩ (.int .u8 (v : Nat))) := bw3.setCell (p := ⟨w2.heap.size, i, none⟩) (Nat.le_of_lt hlt) _
      have HL4 : Hid ((s.set i v).length = 128) := by show _ = _; rw [List.length_set]; exact HSL.out
      have HB4 : Hid (Bytes (s.set i v)) := HSB.out.set i v hvl
      have HV : Hid ((s.set i v).getD i 0 = v) := by show _ = _; simp [HSL.out, hil]
      have HX : Hid (c = v → s.set i v = s) := fun h => set_same (HC.out.trans h) (by rw [HSL.out]; exact hil)
      clear bw3 hg3 HC HSB
      go_wp2_with (first | (refine wpList_store_sector rfl (.tmp 7) (.tmp 24) rfl w2.heap.size _ rfl rfl HSL.out _ _ (heap_alloc_new w2 _) rfl ?_; rw [World.setRow_alloc_new]; generalize w2.alloc (.cells (cells s) 41) = w3 at *) | (refine wpList_load_sector rfl (.tmp 7) rfl w2.heap.size 0 _ rfl HL4.out (kept_cells HL4.out hg4) ?_; generalize w3.setCell ⟨w2.heap.size, i, none⟩ (.int .u8 (v : Nat)) = w4 at *))
      refine (open_any _ HL4.out HB4.out w4).mono ?_
      rintro e w5 ⟨b5, h5⟩
      obtain ⟨hgl, _⟩ := Array.getElem?_eq_some_iff.1 hg4
      have hg5 : w5.heap[w2.heap.size]? = some (.cells (cells (s.set i v)) 41 (0, 0)) := by rw [b5.block _ hgl]; exact hg4
      have bw5 := bw4.trans (b5.mono bw4.size)
      have hc5 : w5.cell? ⟨w2.heap.size, i, none⟩ = some (.int .u8 (v : Nat)) := by
        have := kept_cells HL4.out hg5 i hil
        rw [HV.out, Nat.zero_add] at this
        exact this
      clear bw4 hg4 b5 hfz d0 d1 hci
      by_cases hE : v = c
      · have hq : ((v : Int) == c) = true := by simp [hE]
        rcases h5 with ⟨ho, a5, cap5, rfl, hrd5⟩ | ⟨ho, rfl⟩
        · clear hE HT HX HO ho
          go_wp2
          go_ret
          exact ⟨rfl, bw5⟩
        · exfalso
          rw [HX.out hE.symm, HO.out] at ho
          exact absurd ho (by decide)
      · have hq : ((v : Int) == c) = false := by simp; omega
        have hno := HT.out (fun h => hE h.symm)
        rcases h5 with ⟨ho, a5, cap5, rfl, hrd5⟩ | ⟨ho, rfl⟩
        · exfalso
          rw [hno] at ho
          exact absurd ho (by decide)
        · have HI : Hid (isB (s.set i v) k = false) := by show _ = _; unfold isB; rw [hno]; rfl
          clear hE HT HX HO ho hno
          go_wp2_with (refine wpList_load_sector_want rfl (.tmp 7) rfl w2.heap.size 0 _ rfl HL4.out (kept_cells HL4.out hg5) ?_)
          refine (is_any _ k HL4.out HB4.out w5).mono ?_
          rintro e w6 ⟨rfl, b6⟩
          rw [HI.out]
          have bw6 := bw5.trans (b6.mono bw5.size)
          clear bw5 b6 hg5 hc5
          go_wp2
          go_ret
          exact ⟨rfl, bw6⟩
set_option maxRecDepth 100000 in
theorem sealTurns_lifted (os : Os) (started : os.Started) (H : Type) (enc : TypeId × Value → H) :
    ReturnsInHanded {} Try.checked os 10 .any (Rows.sealTurnsSpec.pre6 enc Try.prog Try.f10 Rows.sealTurnsRow.domain false) (Rows.sealTurnsSpec.post enc Try.prog Try.f10 false true false false) :=
  law_lifted (s := Rows.sealTurnsSpec) started Try.func10 (by kernel_rfl) rfl (fun ds hd => by
        match ds, hd with
        | [_, _, _], _ => rfl) rfl
      (of_decide_eq_true (by kernel_rfl))
      (ChangeSpec.witness6 (enc := enc) (C := Try.checked) false ⟨#[], #[.int .u8 0, .slice none 0 0, .agg #[.int .i64 0, .int .i64 0]], []⟩ 8 (by kernel_rfl) (by kernel_rfl) (by kernel_rfl) (by kernel_rfl))
      (fun W base args ds ps hval hA hsz => by
        rw [Try.params10] at hA hval hsz
        obtain ⟨v0, vs0, d0, ds0, p0, q0, hargs, rfl, rfl, h0, r0⟩ := trodAll_cons hA
        obtain ⟨v1, vs1, d1, ds1, p1, q1, rfl, rfl, rfl, h1, r1⟩ := trodAll_cons r0
        obtain ⟨v2, vs2, d2, ds2, p2, q2, rfl, rfl, rfl, h2, r2⟩ := trodAll_cons r1
        obtain ⟨rfl, rfl, rfl⟩ := trodAll_nil r2
        obtain rfl : args = #[v0, v1, v2] := by cases args; simp_all
        simp only [DataW.weightsEach, List.all_append, Bool.and_eq_true] at hsz
        obtain ⟨z0, z1, z2, _⟩ := hsz
        obtain ⟨k, rfl, rfl, rfl, wk⟩ := open_int Try.underlying5 (hval 0 5 v0 rfl rfl) h0
        obtain ⟨b, lb, cb, B, rfl, hrb, hlb, hcb⟩ := open_bytes (hval 1 22 v1 rfl rfl) h1 z1
        obtain ⟨x, y, rfl, wx, wy⟩ := open_pair Try.underlying23 Try.underlying3 (by kernel_rfl) (by kernel_rfl) (hval 2 23 v2 rfl rfl) h2
        obtain ⟨k0, k1⟩ := u8_of_wf wk
        obtain ⟨k, rfl⟩ := Int.eq_ofNat_of_zero_le k0
        exact sealTurns_walk k (by omega) b lb cb B x y (i64_of_wf wx) (i64_of_wf wy) W hrb hlb hcb)

theorem sealTurns_holds : Rows.SealTurnsSaid :=
  OpenClaim.holds_of_wide 10 Try.f10 rfl rfl rfl rfl rfl rfl rfl ⟨rfl, rfl, rfl, rfl, rfl⟩ rfl rfl rfl rfl rfl (by kernel_rfl) Try.func10 (by kernel_rfl)
    (of_decide_eq_true (by kernel_rfl)) (by unfold Func.isWrapper; first | (rw [if_pos (by decide +kernel)]; kernel_rfl) | (rw [if_neg (by decide +kernel)]; exact ⟨rfl, rfl⟩))
    (fun os started H enc _ => sealTurns_lifted os started H enc)
#print axioms sealTurns_holds
end Go.Proofs.Ytdcnmfkhalfjcaa
