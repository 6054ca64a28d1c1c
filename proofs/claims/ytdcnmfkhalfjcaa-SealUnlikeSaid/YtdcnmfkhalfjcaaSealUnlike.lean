/- The law SealUnlike is true for every input: unlike kinds, and unlike bodies, have unlike sectors. No condition. -/
import Derived.Test.YtdcnmfkhalfjcaaLaw2
namespace Go.Proofs.Ytdcnmfkhalfjcaa
open Go.ChangeShapes Go.WideShapes Go.ChangeAt Go.RowKit
set_option linter.unusedVariables false

set_option maxHeartbeats 1600000 in
set_option maxRecDepth 100000 in
theorem sealUnlike_walk (x y : Nat) (hx : x < 256) (hy : y < 256) (a b : Option Addr) (la lb ca cb : Nat) (A B : List Nat) (w : World) (hra : Reads w a la A) (hrb : Reads w b lb B) (hla : la ≤ ca) (hlb : lb ≤ cb) (hca : ca ≤ 140737488351232) (hcb : cb ≤ 140737488351232) :
    Calls Try.prog 11 #[.agg #[.int .u8 x, .int .u8 y], .slice a la ca, .slice b lb cb] w fun e w' => e = .returned (.bool true) ∧ Below w.heap.size w w' := by
  obtain rfl : la = A.length := hra.1.symm
  obtain rfl : lb = B.length := hrb.1.symm
  obtain ⟨k1, hk1, l1, n1⟩ := or_one x hx
  obtain ⟨k2, hk2, l2, n2⟩ := or_one y hy
  have hz := zero_sector
  go_enter Try.func11, Try.ntmps11
  go_wp2_with fail
  refine (awake2_true _).mono ?_
  rintro e w1 ⟨rfl, hb1⟩
  obtain ⟨c0, c1, hb, hs1⟩ := boxed2 hb1
  clear hb1
  have hra1 := hra.below hb
  have hrb1 := hrb.below hb
  clear hra hrb
  go_upto_if 16 with (fail)
  go_cut [1] (fun s wx => w1 = wx ∧ ∃ k, k ≤ 120 ∧ s = .slice a k ca ∧ Reads w1 a k (A.take 120))
  case first =>
    by_cases h40 : 120 < A.length
    · go_wp2
      go_meet
      exact ⟨rfl, 120, by omega, rfl, hra1.take 120 (by omega)⟩
    · go_wp2
      go_meet
      exact ⟨rfl, A.length, by omega, rfl, by rw [List.take_of_length_le (by omega)]; exact hra1⟩
  case rest =>
    obtain ⟨rfl, ka, hka, rfl, hra2⟩ := hcut
    go_upto_if 21 with (fail)
    go_cut [2] (fun s wx => w1 = wx ∧ ∃ k, k ≤ 120 ∧ s = .slice b k cb ∧ Reads w1 b k (B.take 120))
    case first =>
      by_cases h40 : 120 < B.length
      · go_wp2
        go_meet
        exact ⟨rfl, 120, by omega, rfl, hrb1.take 120 (by omega)⟩
      · go_wp2
        go_meet
        exact ⟨rfl, B.length, by omega, rfl, by rw [List.take_of_length_le (by omega)]; exact hrb1⟩
    case rest =>
      obtain ⟨rfl, kb, hkb, rfl, hrb2⟩ := hcut
      clear hra1 hrb1 hla hlb
      generalize A.take 120 = A at *
      generalize B.take 120 = B at *
      obtain rfl : ka = A.length := hra2.1.symm
      obtain rfl : kb = B.length := hrb2.1.symm
      go_wp2_with fail
      refine (make_ok k1 A _ _ _ _ hra2 hka l1 n1).mono ?_
      rintro e w2 ⟨rfl, b2⟩
      have hl1 := sealL_length (kind := k1) hka
      have hl2 := sealL_length (kind := k2) hkb
      have hs2 := b2.size
      have HL1 := Lib.hid hl1
      have HL2 := Lib.hid hl2
      clear hl1 hl2
      have D : ∀ W, Below w1.heap.size w1 W → W.cell? ⟨w.heap.size, 0, none⟩ = some (.int .u8 x) ∧ W.cell? ⟨w.heap.size, 1, none⟩ = some (.int .u8 y) := fun W h =>
        ⟨(h.cell (p := ⟨w.heap.size, 0, none⟩) hs1).trans c0, (h.cell (p := ⟨w.heap.size, 1, none⟩) hs1).trans c1⟩
      have HD := Lib.hid D
      clear D c0 c1
      have b3 := b2.alloc hs2 (.cells (cells (sealL k1 A)) 41)
      obtain ⟨d0, d1⟩ := HD.out _ b3
      have hg3 := heap_alloc_new w2 (.cells (cells (sealL k1 A)) 41)
      have hs3 : w2.heap.size < (w2.alloc (.cells (cells (sealL k1 A)) 41)).heap.size := by simp
      go_wp2_with (refine wpList_store_sector rfl (.tmp 7) (.tmp 30) rfl w2.heap.size _ rfl rfl HL1.out _ _ (heap_alloc_new w2 _) rfl ?_; rw [World.setRow_alloc_new]; generalize w2.alloc (.cells (cells (sealL k1 A)) 41) = w3 at *)
      refine (make_ok k2 B _ _ _ _ (hrb2.below b3) hkb l2 n2).mono ?_
      rintro e w4 ⟨rfl, b4⟩
      have b4' := b3.trans (b4.mono b3.size)
      have hg4 : w4.heap[w2.heap.size]? = some (.cells (cells (sealL k1 A)) 41 (0, 0)) := by rw [b4.block _ hs3]; exact hg3
      have hs4 : w2.heap.size < w4.heap.size := (Array.getElem?_eq_some_iff.1 hg4).1
      have b5 := b4'.alloc b4'.size (.cells (cells (sealL k2 B)) 41)
      have hg5 : (w4.alloc (.cells (cells (sealL k2 B)) 41)).heap[w2.heap.size]? = some (.cells (cells (sealL k1 A)) 41 (0, 0)) := by rw [Below.heap_alloc w4 _ _ hs4]; exact hg4
      have hg6 := heap_alloc_new w4 (.cells (cells (sealL k2 B)) 41)
      clear d0 d1 b3 b4 b4' hg3 hg4 hs3 b2
      obtain ⟨d0, d1⟩ := HD.out _ b5
      have hra5 := hra2.below b5
      have hrb5 := hrb2.below b5
      clear hra2 hrb2
      have hcmp := run_eql_sector (sealL k1 A) (sealL k2 B) HL1.out HL2.out
      have hinj := sealL_inj (k := k1) (k' := k2) hka hkb
      have hbw : Below w.heap.size w (w4.alloc (.cells (cells (sealL k2 B)) 41)) := hb.trans (b5.mono hb.size)
      clear b5
      by_cases hk : k1 = k2
      · have ht : ((k1 : Int) == k2) = true := by simp [hk]
        by_cases hE : sameB A B = true
        · have hD : decide (sealL k1 A = sealL k2 B) = true := by rw [hinj, hE, decide_eq_true hk]; rfl
          simp only [hD] at hcmp
          clear hk hD hinj
          go_wp2_with (first | (refine wpList_store_sector rfl (.tmp 9) (.tmp 38) rfl w4.heap.size _ rfl rfl HL2.out _ _ (heap_alloc_new w4 _) rfl ?_; rw [World.setRow_alloc_new]; generalize w4.alloc (.cells (cells (sealL k2 B)) 41) = w5 at *))
          refine (equal_any _ _ _ _ _ _ A B _ hra5 hrb5 (by unfold maxLen; omega)).mono ?_
          rintro e w6 ⟨rfl, nq, hw6⟩
          have hg5d : w6.heap[w2.heap.size]? = some (.cells (cells (sealL k1 A)) 41 (0, 0)) := by rw [← hw6]; exact hg5
          have hg6d : w6.heap[w4.heap.size]? = some (.cells (cells (sealL k2 B)) 41 (0, 0)) := by rw [← hw6]; exact hg6
          have hbw6 : Below w.heap.size w w6 := by rw [← hw6]; exact below_drawn hbw nq
          clear hw6 hg5 hg6 hra5 hrb5 d0 d1
          go_wp2_with (first | (refine wpList_load_sector_want rfl (.tmp 7) rfl w2.heap.size 0 _ rfl HL1.out (kept_cells HL1.out hg5d) ?_) | (refine wpList_load_sector_want rfl (.tmp 9) rfl w4.heap.size 0 _ rfl HL2.out (kept_cells HL2.out hg6d) ?_))
          go_ret
          exact ⟨rfl, hbw6⟩
        · have hE : sameB A B = false := by simpa using hE
          have hD : decide (sealL k1 A = sealL k2 B) = false := by rw [hinj, hE, Bool.and_false]
          simp only [hD] at hcmp
          clear hk hD hinj
          go_wp2_with (first | (refine wpList_store_sector rfl (.tmp 9) (.tmp 38) rfl w4.heap.size _ rfl rfl HL2.out _ _ (heap_alloc_new w4 _) rfl ?_; rw [World.setRow_alloc_new]; generalize w4.alloc (.cells (cells (sealL k2 B)) 41) = w5 at *))
          refine (equal_any _ _ _ _ _ _ A B _ hra5 hrb5 (by unfold maxLen; omega)).mono ?_
          rintro e w6 ⟨rfl, nq, hw6⟩
          have hg5d : w6.heap[w2.heap.size]? = some (.cells (cells (sealL k1 A)) 41 (0, 0)) := by rw [← hw6]; exact hg5
          have hg6d : w6.heap[w4.heap.size]? = some (.cells (cells (sealL k2 B)) 41 (0, 0)) := by rw [← hw6]; exact hg6
          have hbw6 : Below w.heap.size w w6 := by rw [← hw6]; exact below_drawn hbw nq
          clear hw6 hg5 hg6 hra5 hrb5 d0 d1
          go_wp2_with (first | (refine wpList_load_sector_want rfl (.tmp 7) rfl w2.heap.size 0 _ rfl HL1.out (kept_cells HL1.out hg5d) ?_) | (refine wpList_load_sector_want rfl (.tmp 9) rfl w4.heap.size 0 _ rfl HL2.out (kept_cells HL2.out hg6d) ?_))
          go_ret
          exact ⟨rfl, hbw6⟩
      · have ht : ((k1 : Int) == k2) = false := by simp; omega
        have hD : decide (sealL k1 A = sealL k2 B) = false := by rw [hinj, decide_eq_false hk]; rfl
        simp only [hD] at hcmp
        clear hk hD hinj
        go_wp2_with (first | (refine wpList_store_sector rfl (.tmp 9) (.tmp 38) rfl w4.heap.size _ rfl rfl HL2.out _ _ (heap_alloc_new w4 _) rfl ?_; rw [World.setRow_alloc_new]; generalize w4.alloc (.cells (cells (sealL k2 B)) 41) = w5 at *) | (refine wpList_load_sector_want rfl (.tmp 7) rfl w2.heap.size 0 _ rfl HL1.out (kept_cells HL1.out hg5) ?_) | (refine wpList_load_sector_want rfl (.tmp 9) rfl w4.heap.size 0 _ rfl HL2.out (kept_cells HL2.out hg6) ?_))
        go_ret
        exact ⟨rfl, hbw⟩
set_option maxRecDepth 100000 in
theorem sealUnlike_lifted (os : Os) (started : os.Started) (H : Type) (enc : TypeId × Value → H) :
    ReturnsInHanded {} Try.checked os 11 .any (Rows.sealUnlikeSpec.pre6 enc Try.prog Try.f11 Rows.sealUnlikeRow.domain false) (Rows.sealUnlikeSpec.post enc Try.prog Try.f11 false true false false) :=
  law_lifted (s := Rows.sealUnlikeSpec) started Try.func11 (by kernel_rfl) rfl (fun ds hd => by
        match ds, hd with
        | [_, _, _], _ => rfl) rfl
      (of_decide_eq_true (by kernel_rfl))
      (ChangeSpec.witness6 (enc := enc) (C := Try.checked) false ⟨#[], #[.agg #[.int .u8 0, .int .u8 0], .slice none 0 0, .slice none 0 0], []⟩ 8 (by kernel_rfl) (by kernel_rfl) (by kernel_rfl) (by kernel_rfl))
      (fun W base args ds ps hval hA hsz => by
        rw [Try.params11] at hA hval hsz
        obtain ⟨v0, vs0, d0, ds0, p0, q0, hargs, rfl, rfl, h0, r0⟩ := trodAll_cons hA
        obtain ⟨v1, vs1, d1, ds1, p1, q1, rfl, rfl, rfl, h1, r1⟩ := trodAll_cons r0
        obtain ⟨v2, vs2, d2, ds2, p2, q2, rfl, rfl, rfl, h2, r2⟩ := trodAll_cons r1
        obtain ⟨rfl, rfl, rfl⟩ := trodAll_nil r2
        obtain rfl : args = #[v0, v1, v2] := by cases args; simp_all
        simp only [DataW.weightsEach, List.all_append, Bool.and_eq_true] at hsz
        obtain ⟨z0, z1, z2, _⟩ := hsz
        obtain ⟨x, y, rfl, wx, wy⟩ := open_pair Try.underlying73 Try.underlying5 (by kernel_rfl) (by kernel_rfl) (hval 0 73 v0 rfl rfl) h0
        obtain ⟨a, la, ca, A, rfl, hra, hla, hca⟩ := open_bytes (hval 1 22 v1 rfl rfl) h1 z1
        obtain ⟨b, lb, cb, B, rfl, hrb, hlb, hcb⟩ := open_bytes (hval 2 22 v2 rfl rfl) h2 z2
        obtain ⟨x0, x1⟩ := u8_of_wf wx
        obtain ⟨y0, y1⟩ := u8_of_wf wy
        obtain ⟨x, rfl⟩ := Int.eq_ofNat_of_zero_le x0
        obtain ⟨y, rfl⟩ := Int.eq_ofNat_of_zero_le y0
        exact sealUnlike_walk x y (by omega) (by omega) a b la lb ca cb A B W hra hrb hla hlb hca hcb)

theorem sealUnlike_holds : Rows.SealUnlikeSaid :=
  OpenClaim.holds_of_wide 11 Try.f11 rfl rfl rfl rfl rfl rfl rfl ⟨rfl, rfl, rfl, rfl, rfl⟩ rfl rfl rfl rfl rfl (by kernel_rfl) Try.func11 (by kernel_rfl)
    (of_decide_eq_true (by kernel_rfl)) (by unfold Func.isWrapper; first | (rw [if_pos (by decide +kernel)]; kernel_rfl) | (rw [if_neg (by decide +kernel)]; exact ⟨rfl, rfl⟩))
    (fun os started H enc _ => sealUnlike_lifted os started H enc)
#print axioms sealUnlike_holds
end Go.Proofs.Ytdcnmfkhalfjcaa
