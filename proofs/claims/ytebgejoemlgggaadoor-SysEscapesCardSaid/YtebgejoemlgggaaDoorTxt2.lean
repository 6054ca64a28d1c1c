/- Numbers as texts: the document's Text, the program's Itoa; and read back. -/
import Derived.Test.YtebgejoemlgggaaDoorTxt1
import Derived.Lib.AtoiTie
import Derived.Lib.AppendIntMem
import Derived.Lib.AtoiAllCases
namespace Go.Proofs.YtebgejoemlgggaaDoor
open Go.RowKit Go.Sort
set_option linter.unusedVariables false
set_option linter.unusedSimpArgs false
set_option maxRecDepth 100000

set_option maxHeartbeats 400000 in
theorem rtxt_is (n : Int) (hn : I64 n) (w : World) : Calls Tryd.prog 64 #[.int .i64 n] w fun e w' => e = .returned (strB (Lib.itoa n)) ∧ Below w.heap.size w w' := by
  unfold I64 at hn
  by_cases h : n < 0
  · obtain ⟨k, hk⟩ : ∃ k : Nat, n + 1 = -(k : Int) := ⟨(-(n + 1)).toNat, by omega⟩
    have hn2 : n = -((k + 1 : Nat) : Int) := by omega
    have HE : Hid (Lib.itoa n = [45] ++ Lib.decDigits (k + 1)) := Lib.hid (by rw [hn2, Lib.itoa_neg _ (by omega)]; rfl)
    have HD := Lib.hid (rdigits_is (k + 2) (k + 1) (by omega) (by omega) w)
    have w0 : IntKind.i64.wrap (-(k : Int)) = -(k : Int) := IntWalk.i64_in _ (by omega)
    have w1 : IntKind.i64.wrap (k : Int) = (k : Int) := IntWalk.i64_in _ (by omega)
    have w2 : IntKind.u64.wrap (k : Int) = (k : Int) := IntWalk.u64_in _ (by omega)
    have w3 : IntKind.u64.wrap ((k : Int) + 1) = ((k + 1 : Nat) : Int) := by rw [IntWalk.u64_in _ (by omega)]; omega
    have hll : (Lib.decDigits (k + 1)).length ≤ 20 := by rw [Lib.decDigits_length]; exact Lib.nDigits_le20 _ (by omega)
    have hadd := fun W => run_addB [45] (Lib.decDigits (k + 1)) W (by rw [List.length_singleton]; omega)
    obtain ⟨m, hm⟩ : ∃ m, k + 1 = m := ⟨_, rfl⟩
    rw [hm] at HE HD w3 hadd
    obtain ⟨L, hL⟩ : ∃ L, Lib.decDigits m = L := ⟨_, rfl⟩
    rw [hL] at HE HD hadd
    have hadd' : ∀ W, (binOp .add 9 (.string ⟨#[45]⟩) (strB L)).run Tryd.prog W = .ok (strB ([45] ++ L)) W := hadd
    clear hn hn2 hll hm hL hadd
    go_enter Tryd.func64, Tryd.ntmps64
    go_wp2_with fail
    refine HD.out.mono ?_
    rintro e w9 ⟨rfl, b9⟩
    go_wp2
    go_ret
    exact ⟨by rw [HE.out]; rfl, b9⟩
  · obtain ⟨k, rfl⟩ := Int.eq_ofNat_of_zero_le (show 0 ≤ n by omega)
    have HE : Hid (Lib.itoa (k : Int) = Lib.decDigits k) := Lib.hid (Lib.itoa_nonneg k)
    have HD := Lib.hid (rdigits_is (k + 1) k (by omega) (by omega) w)
    have w2 : IntKind.u64.wrap (k : Int) = (k : Int) := IntWalk.u64_in _ (by omega)
    clear hn
    go_enter Tryd.func64, Tryd.ntmps64
    go_wp2_with fail
    refine HD.out.mono ?_
    rintro e w9 ⟨rfl, b9⟩
    go_wp2
    go_ret
    exact ⟨by rw [HE.out]; rfl, b9⟩
/-- The library's table of powers, in a world by itself. -/
def PowAt (w : World) : Prop := Lib.TabIs Tryd.prog w "internal/strconv.uint64pow10" .u64 Lib.pow10Tab
theorem itoa_is (n : Int) (hn : I64 n) (w : World) (h : PowAt w) : Calls Tryd.prog 63 #[.int .i64 n] w fun e w' => e = .returned (strB (Lib.itoa n)) ∧ Below w.heap.size w w' :=
  (Tryd.strconv_Itoa n hn.1 hn.2 w h).mono fun e w' ⟨h1, k, os, h2⟩ => ⟨h1, by
    subst h2
    exact Lib.below_grow _ w (Nat.le_refl _) k os⟩
theorem dec_signs : ∀ (m n : Nat), n < m → (∀ c ∈ Lib.decDigits n, 48 ≤ c.toNat ∧ c.toNat ≤ 57) ∧ Lib.decDigits n ≠ [] := by
  intro m
  induction m with
  | zero => intro n h; omega
  | succ m ih =>
    intro n h
    have key : ∀ r, r < 10 → 48 ≤ (UInt8.ofNat (48 + r)).toNat ∧ (UInt8.ofNat (48 + r)).toNat ≤ 57 := by decide
    rw [Lib.decDigits]
    by_cases h10 : n < 10
    · rw [dif_pos h10]
      exact ⟨fun c hc => by rw [List.mem_singleton.1 hc]; exact key n h10, by simp⟩
    · rw [dif_neg h10]
      refine ⟨fun c hc => ?_, by simp⟩
      rcases List.mem_append.1 hc with hc | hc
      · exact (ih (n / 10) (by omega)).1 c hc
      · rw [List.mem_singleton.1 hc]; exact key _ (by omega)
theorem parse_snoc : ∀ (l : Bx) (acc : Nat) (c : UInt8) (u : Nat), Lib.parseUint10 acc l = .ok u → Lib.parseUint10 acc (l ++ [c]) = Lib.parseUint10 u [c]
  | [], acc, c, u, h => by
    have : acc = u := by simpa [Lib.parseUint10] using h
    rw [this]; rfl
  | d :: l, acc, c, u, h => by
    rw [List.cons_append]
    unfold Lib.parseUint10 at h ⊢
    split at h
    · split at h
      · cases h
      · split at h
        · cases h
        · rename_i h1 h2 h3
          rw [if_pos h1, if_neg h2, if_neg h3]
          exact parse_snoc l _ c u h
    · cases h
theorem parse_dec : ∀ (m n : Nat), n < m → n < 18446744073709551616 → Lib.parseUint10 0 (Lib.decDigits n) = .ok n := by
  intro m
  induction m with
  | zero => intro n h; omega
  | succ m ih =>
    intro n h hn
    have key : ∀ r, r < 10 → (UInt8.ofNat (48 + r)).toNat = 48 + r := by decide
    rw [Lib.decDigits]
    by_cases h10 : n < 10
    · rw [dif_pos h10]
      have := key n h10
      unfold Lib.parseUint10
      rw [this, if_pos (by omega), if_neg (by omega), if_neg (by omega)]
      unfold Lib.parseUint10
      congr 1
      omega
    · rw [dif_neg h10, parse_snoc _ 0 _ (n / 10) (ih (n / 10) (by omega) (by omega))]
      have := key (n % 10) (by omega)
      unfold Lib.parseUint10
      rw [this, if_pos (by omega), if_neg (by omega), if_neg (by omega)]
      unfold Lib.parseUint10
      congr 1
      omega
theorem dec_head (n : Nat) : ∃ c r, Lib.decDigits n = c :: r ∧ c.toNat ≠ 43 ∧ c.toNat ≠ 45 := by
  have h := dec_signs (n + 1) n (Nat.lt_succ_self n)
  cases hd : Lib.decDigits n with
  | nil => exact absurd hd h.2
  | cons c r =>
    rw [hd] at h
    have := h.1 c (by simp)
    exact ⟨c, r, rfl, by omega, by omega⟩
theorem atoi_itoa (n : Int) (hn : I64 n) : Lib.atoiAll (Lib.itoa n) = .ok n := by
  unfold I64 at hn
  by_cases h : n < 0
  · obtain ⟨m, rfl⟩ : ∃ m : Nat, n = -(m : Int) := ⟨n.natAbs, by omega⟩
    rw [Lib.itoa_neg m (by omega), Lib.atoiAll_minus]
    have hp : Lib.parseMag (Lib.decDigits m) = .ok m := by
      unfold Lib.parseMag
      rw [if_neg (dec_signs (m + 1) m (Nat.lt_succ_self m)).2]
      exact parse_dec (m + 1) m (Nat.lt_succ_self m) (by omega)
    rw [hp]
    unfold Lib.signed
    simp
    omega
  · obtain ⟨m, rfl⟩ := Int.eq_ofNat_of_zero_le (show 0 ≤ n by omega)
    rw [Lib.itoa_nonneg]
    have hp : Lib.parseMag (Lib.decDigits m) = .ok m := by
      unfold Lib.parseMag
      rw [if_neg (dec_signs (m + 1) m (Nat.lt_succ_self m)).2]
      exact parse_dec (m + 1) m (Nat.lt_succ_self m) (by omega)
    obtain ⟨c, r, hc, h1, h2⟩ := dec_head m
    rw [hc, Lib.atoiAll_plain c r h1 h2, ← hc, hp]
    unfold Lib.signless
    simp
    omega
theorem itoa_inj {m n : Int} (hm : I64 m) (hn : I64 n) (h : Lib.itoa m = Lib.itoa n) : m = n := by
  have h1 := atoi_itoa m hm
  rw [h, atoi_itoa n hn] at h1
  injection h1 with h1
  exact h1.symm
theorem itoa_len (n : Int) (hn : I64 n) : (Lib.itoa n).length ≤ 21 := Lib.itoa_length_le n hn.1 hn.2
theorem dec_at : ∀ r, r < 10 → (48 : UInt8) ≤ UInt8.ofNat (48 + r) ∧ UInt8.ofNat (48 + r) ≤ 57 ∧ UInt8.ofNat (48 + r) ≠ 32 := by decide
theorem dec_blank : ∀ (m n : Nat), n < m → (32 : UInt8) ∉ Lib.decDigits n ∧ (45 : UInt8) ∉ Lib.decDigits n ∧ Lib.decDigits n ≠ [] := by
  intro m
  induction m with
  | zero => intro n h; omega
  | succ m ih =>
    intro n h
    have key : ∀ r, r < 10 → UInt8.ofNat (48 + r) ≠ 32 ∧ UInt8.ofNat (48 + r) ≠ 45 := by decide
    rw [Lib.decDigits]
    by_cases h10 : n < 10
    · rw [dif_pos h10]
      have := key n h10
      refine ⟨?_, ?_, by simp⟩
      · intro hm; exact this.1 (List.mem_singleton.1 hm).symm
      · intro hm; exact this.2 (List.mem_singleton.1 hm).symm
    · rw [dif_neg h10]
      have := key (n % 10) (by omega)
      obtain ⟨i1, i2, i3⟩ := ih (n / 10) (by omega)
      refine ⟨?_, ?_, by simp⟩
      · intro hm
        rcases List.mem_append.1 hm with hm | hm
        · exact i1 hm
        · exact this.1 (List.mem_singleton.1 hm).symm
      · intro hm
        rcases List.mem_append.1 hm with hm | hm
        · exact i2 hm
        · exact this.2 (List.mem_singleton.1 hm).symm
theorem itoa_blank (n : Int) : (32 : UInt8) ∉ Lib.itoa n := by
  unfold Lib.itoa
  split
  · intro h
    rcases List.mem_cons.1 h with h | h
    · exact absurd h (by decide)
    · exact (dec_blank _ _ (Nat.lt_succ_self _)).1 h
  · exact (dec_blank _ _ (Nat.lt_succ_self _)).1
theorem itoa_ne (n : Int) : Lib.itoa n ≠ [] := by
  unfold Lib.itoa
  split
  · simp
  · exact (dec_blank _ _ (Nat.lt_succ_self _)).2.2
end Go.Proofs.YtebgejoemlgggaaDoor
