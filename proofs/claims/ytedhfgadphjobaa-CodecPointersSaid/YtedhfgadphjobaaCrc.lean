/- The two sums, by their walks. -/
import Derived.Test.YtedhfgadphjobaaNumB
import Derived.Test.YtedhfgadphjobaaCrcMath
namespace Go.Proofs.Ytedhfgadphjobaa
open Go.RowKit
set_option linter.unusedVariables false
set_option maxRecDepth 100000

theorem xor_byte (A X : Nat) (hA : A < 4294967296) (hX : X < 256) : bits .xor .u32 (A : Int) ((X : Int) % 4294967296) = ((A ^^^ X : Nat) : Int) := by
  rw [show ((X : Int) % 4294967296) = (X : Int) by omega]
  exact u32_xor_nat A X hA (by omega)
theorem xor_poly (m : Nat) (hm : m < 4294967296) : bits .xor .u32 ((m : Int) / 2) 3988292384 = ((m / 2 ^^^ 3988292384 : Nat) : Int) := by
  have := u32_xor_nat (m / 2) 3988292384 (by omega) (by decide)
  rw [← this]
  rfl
theorem bit_odd {m j c : Nat} (h : Hid (m = crcBits j c)) (ho : m % 2 = 1) : Hid (m / 2 ^^^ 3988292384 = crcBits (j + 1) c) := by
  show _ = _
  rw [crcBits, ← h.out, crcBit, if_pos ho]
theorem bit_even {m j c : Nat} (h : Hid (m = crcBits j c)) (ho : ¬ m % 2 = 1) : Hid (m / 2 = crcBits (j + 1) c) := by
  show _ = _
  rw [crcBits, ← h.out, crcBit, if_neg ho]

theorem crc_end {A : Nat} {l : List Nat} (h : Hid (A = crcRaw l)) (hA : A < 4294967296) : Ending.returned (.int .u32 (4294967295 - (A : Int))) = .returned (.int .u32 ((crc l : Nat) : Int)) := by
  have e : ((crc l : Nat) : Int) = 4294967295 - (A : Int) := by
    unfold crc
    rw [← h.out]
    omega
  rw [e]

theorem mask_step (m : Nat) (hm : m < 4294967296) :
    bits .xor .u32 ((m : Int) / 2) (bits .and .u32 3988292384 (-bits .and .u32 (m : Int) 1 % 4294967296)) = ((crcBit m : Nat) : Int) := by
  have h1 : bits .and .u32 (m : Int) 1 = ((m % 2 : Nat) : Int) := by
    have := u32_and_nat m 1 hm (by decide)
    rw [Nat.and_one_is_mod] at this
    exact this
  rw [h1]
  unfold crcBit
  by_cases ho : m % 2 = 1
  · rw [if_pos ho, ho]
    have h2 : bits .and .u32 3988292384 (-((1 : Nat) : Int) % 4294967296) = 3988292384 := by
      have := u32_and_nat 3988292384 4294967295 (by decide) (by decide)
      exact this
    rw [h2]
    exact xor_poly m hm
  · have h0 : m % 2 = 0 := by omega
    rw [if_neg ho, h0]
    have h2 : bits .and .u32 3988292384 (-((0 : Nat) : Int) % 4294967296) = 0 := by
      have := u32_and_nat 3988292384 0 (by decide) (by decide)
      exact this
    rw [h2]
    have := u32_xor_nat (m / 2) 0 (by omega) (by decide)
    rw [Nat.xor_zero] at this
    exact this
theorem not_u32 (A : Nat) (hA : A < 4294967296) : bits .xor .u32 IntKind.u32.max (A : Int) = 4294967295 - (A : Int) := by
  show IntKind.u32.wrap ((BitVec.ofInt 32 4294967295 ^^^ BitVec.ofInt 32 (A : Int)).toNat : Int) = _
  have h1 : BitVec.ofInt 32 4294967295 = BitVec.allOnes 32 := by decide
  rw [h1, BitVec.allOnes_xor, BitVec.toNat_not, ofInt_u32 A hA, IntKind.wrap_u32']
  omega

set_option maxHeartbeats 800000 in
theorem crc_any (a : Option Addr) (len cap : Nat) (l : List Nat) (w : World) (hr : Reads w a len l) (hl : len ≤ maxLen) :
    Calls Try.prog 107 #[.slice a len cap] w fun e w' => e = .returned (.int .u32 (crc l : Nat)) ∧ w = w' := by
  have hm : len ≤ 9223372036854775807 := by unfold maxLen at hl; omega
  obtain ⟨hlen, hb, hr⟩ := hr
  have HL := Lib.hid hlen
  clear hlen
  go_enter Try.func107, Try.ntmps107
  go_wp2
  go_loop [3, 7] (fun c i => ∃ k : Nat, k ≤ len ∧ i = .int .i64 k ∧ c = .int .u32 (crcRaw (l.take k) : Nat)) (fun _ i => len - (intOf i).toNat)
  case atStart => exact ⟨0, by omega, rfl, rfl⟩
  case round =>
    obtain ⟨k, hk, rfl, rfl⟩ := hrel
    by_cases hlt : k < len
    · rcases hr with rfl | ⟨b, off, rfl, hbl, hc⟩
      · have := HL.out; simp at this; omega
      have hcell := hc k hlt
      clear hc
      have hA := crcRaw_lt _ (hb.take k)
      have hX := hb.getD k
      have hsn := Lib.hid (take_snoc_getD l k (by have := HL.out; omega))
      have eX : l[k]?.getD 0 = l.getD k 0 := by simp [List.getD]
      have EX := Lib.hid eX
      clear eX
      obtain ⟨A, eA⟩ : ∃ A, crcRaw (l.take k) = A := ⟨_, rfl⟩
      have EA := Lib.hid eA
      rw [eA] at hA ⊢
      clear eA
      go_wp2
      go_loop [3, 17] (fun c i => ∃ j m : Nat, j ≤ 8 ∧ i = .int .i64 j ∧ c = .int .u32 (m : Nat) ∧ m < 4294967296 ∧ Hid (m = crcBits j (A ^^^ l.getD k 0))) (fun _ i => 8 - (intOf i).toNat)
      case atStart => exact ⟨0, A ^^^ l.getD k 0, by omega, rfl, by rw [EX.out, xor_byte _ _ hA hX], xor_lt32 hA (by omega), rfl⟩
      case round =>
        obtain ⟨j, m, hj, rfl, rfl, hm32, HM⟩ := hrel
        by_cases hlt8 : j < 8
        · have hst : Hid (crcBit m = crcBits (j + 1) (A ^^^ l.getD k 0)) := by show _ = _; rw [crcBits, ← HM.out]
          have hms := mask_step m hm32
          have HS := Lib.hid hms
          clear hms
          go_wp2
          go_round
          case rel => exact ⟨j + 1, crcBit m, by omega, by go_num, by rw [HS.out], crcBit_lt hm32, hst⟩
          case measure => simp [intOf]; omega
        · have e8 : j = 8 := by omega
          subst e8
          have hfin : Hid (m = crcRaw (l.take (k + 1))) := by
            show _ = _
            rw [hsn.out, crcRaw_snoc, EA.out, HM.out]
            rfl
          go_wp2
          go_round
          case rel => exact ⟨k + 1, by omega, by go_num, by rw [← hfin.out]⟩
          case measure => simp [intOf]; omega
    · have hlast : Hid (crcRaw (l.take k) = crcRaw l) := by
        show _ = _
        rw [List.take_of_length_le (by have := HL.out; omega)]
      have hA := crcRaw_lt _ (hb.take k)
      obtain ⟨A, eA⟩ : ∃ A, crcRaw (l.take k) = A := ⟨_, rfl⟩
      rw [eA] at hA hlast ⊢
      clear eA
      go_wp2
      go_ret
      have hno := not_u32 A hA
      exact ⟨by show Ending.returned (.int .u32 (bits .xor .u32 IntKind.u32.max (A : Int))) = _; rw [hno]; exact crc_end hlast hA, rfl⟩
end Go.Proofs.Ytedhfgadphjobaa
