/- CRC-32, plainly: no program is spoken of. -/
import Derived.Test.YtedhfgadphjobaaMath
import Derived.Laws.BitsAllLaws
namespace Go.Proofs.Ytedhfgadphjobaa

def crcBit (c : Nat) : Nat := if c % 2 = 1 then c / 2 ^^^ 3988292384 else c / 2
def crcBits : Nat → Nat → Nat
  | 0, c => c
  | k + 1, c => crcBit (crcBits k c)
def crcByte (c x : Nat) : Nat := crcBits 8 (c ^^^ x)
def crcRaw (l : List Nat) : Nat := l.foldl crcByte 4294967295
def crc (l : List Nat) : Nat := 4294967295 - crcRaw l

theorem xor_lt32 {a b : Nat} (ha : a < 4294967296) (hb : b < 4294967296) : a ^^^ b < 4294967296 :=
  Nat.xor_lt_two_pow (n := 32) ha hb
theorem crcBit_lt {c : Nat} (h : c < 4294967296) : crcBit c < 4294967296 := by
  unfold crcBit
  split
  · exact xor_lt32 (by omega) (by decide)
  · omega
theorem crcBits_lt {c : Nat} (h : c < 4294967296) (k : Nat) : crcBits k c < 4294967296 := by
  induction k with
  | zero => exact h
  | succ k ih => exact crcBit_lt ih
theorem crcByte_lt {c x : Nat} (h : c < 4294967296) (hx : x < 256) : crcByte c x < 4294967296 :=
  crcBits_lt (xor_lt32 h (by omega)) 8
theorem crcRaw_snoc (l : List Nat) (x : Nat) : crcRaw (l ++ [x]) = crcByte (crcRaw l) x := by simp [crcRaw]
theorem crcFold_lt (l : List Nat) (hb : Bytes l) : ∀ c, c < 4294967296 → l.foldl crcByte c < 4294967296 := by
  induction l with
  | nil => intro c h; exact h
  | cons x l ih => intro c h; exact ih (fun y hy => hb y (by simp [hy])) _ (crcByte_lt h (hb x (by simp)))
theorem crcRaw_lt (l : List Nat) (hb : Bytes l) : crcRaw l < 4294967296 := crcFold_lt l hb _ (by decide)
theorem crc_lt (l : List Nat) : crc l < 4294967296 := by unfold crc; omega
end Go.Proofs.Ytedhfgadphjobaa
