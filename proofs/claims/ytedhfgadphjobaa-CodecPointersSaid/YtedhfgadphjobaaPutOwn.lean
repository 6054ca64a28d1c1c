/- num.Put on bytes that a call owns. -/
import Derived.Test.YtedhfgadphjobaaRef
import Derived.Test.YtedhfgadphjobaaNumD
namespace Go.Proofs.Ytedhfgadphjobaa
open Go.RowKit
set_option linter.unusedVariables false
set_option maxRecDepth 100000

theorem put_no (a : Option Addr) (len cap : Nat) (p q : Int) (n : Nat) (w : World) (hl : len ≤ maxLen) (hp : I64 p) (hq : I64 q) (hn : n < 18446744073709551616) (h : roomB len p q = false ∨ hasB q n = false) :
    Calls Try.prog 71 #[.slice a len cap, .int .i64 p, .int .i64 q, .int .u64 n] w fun e w' => e = .returned (.int .i64 1) ∧ w = w' := by
  by_cases h1 : roomB len p q = true
  · have h2 : hasB q n = false := by simpa [h1] using h
    obtain ⟨k1, k2, k3, k4⟩ := roomB_yes h1
    obtain ⟨p, rfl⟩ := Int.eq_ofNat_of_zero_le k3
    obtain ⟨q, rfl⟩ := Int.eq_ofNat_of_zero_le (show 0 ≤ q by omega)
    refine put_too_great a len cap p q n w hl (by omega) (by omega) (by omega) hn ?_
    unfold hasB at h2
    have h3 := of_decide_eq_false h2
    rw [Int.toNat_natCast] at h3
    have : ¬ n < 256 ^ q := fun hh => h3 ⟨by omega, by omega, hh⟩
    omega
  · exact put_no_room a len cap p q n w hl hp hq (by simpa using h1)

theorem putL_length (l : List Nat) (p q n : Nat) (h : p + q ≤ l.length) : (putL l p q n).length = l.length := by
  simp [putL, low_length]; omega
theorem putL_bytes {l : List Nat} (h : Bytes l) (p q n : Nat) : Bytes (putL l p q n) := ((h.take p).append (low_bytes n q)).append (h.drop (p + q))
theorem putL_back (l : List Nat) (p q n : Nat) (h : p + q ≤ l.length) : ((putL l p q n).drop p).take q = low n q := by
  unfold putL
  rw [List.append_assoc, List.drop_left' (by simp; omega), List.take_left' (low_length n q)]

/-- The cells of owned bytes, a number written among them. -/
theorem laid_take {cur : Array Value} {l : List Nat} {p q n : Nat} (h : cur.toList.take l.length = l.map byteV) (hpq : p + q ≤ l.length) : (laid cur p (low n q)).toList.take l.length = (putL l p q n).map byteV := by
  have hlc : l.length ≤ cur.toList.length := by
    have := congrArg List.length h
    simp at this ⊢
    omega
  have e : cur.toList = l.map byteV ++ cur.toList.drop l.length := by
    rw [← h, List.take_append_drop]
  simp only [laid, low_length]
  rw [e]
  simp only [putL, List.map_append, List.map_take, List.map_drop]
  have h1 : (l.map byteV ++ cur.toList.drop l.length).take p = (l.map byteV).take p := List.take_append_of_le_length (by simp; omega)
  have h2 : (l.map byteV ++ cur.toList.drop l.length).drop (p + q) = (l.map byteV).drop (p + q) ++ cur.toList.drop l.length := List.drop_append_of_le_length (by simp; omega)
  rw [h1, h2, ← List.append_assoc, List.take_left' (by simp [low_length]; omega)]

theorem put_owned (B : Nat) (v : Value) (l : List Nat) (p q n : Nat) (w : World) (ho : Owns B w v l) (hl : l.length ≤ maxLen) (hq : 1 ≤ q) (hq8 : q ≤ 8) (hpq : p + q ≤ l.length) (h : n < 256 ^ q) :
    Calls Try.prog 71 #[v, .int .i64 p, .int .i64 q, .int .u64 n] w fun e w' => e = .returned (.int .i64 0) ∧ Owns B w' v (putL l p q n) ∧ Below B w w' := by
  obtain ⟨hb, hlen, ho⟩ := ho
  rcases ho with ⟨rfl, hn⟩ | ⟨g, cap, cur, rfl, hbg, hg, hc, hm, hs, ht⟩
  · omega
  rw [Nat.mul_one] at hs ht
  refine (put_yes g 0 l.length cap cur _ p q n w hg (by omega) hl hq hq8 hpq h).mono ?_
  rintro e w' ⟨rfl, rfl⟩
  refine ⟨rfl, ⟨putL_bytes hb p q n, ?_⟩, below_setRow (Below.refl _ _) hbg _⟩
  rw [putL_length l p q n hpq]
  refine ⟨by simp [putL_length l p q n hpq], .inr ⟨g, cap, _, rfl, hbg, setRow_heap _ _ _ _ _ _ hg, hc, hm, ?_, ?_⟩⟩
  · rw [laid_size _ _ _ (by rw [low_length]; omega), hs, Nat.mul_one]
  · rw [Nat.zero_add, Nat.mul_one]
    exact laid_take ht hpq
end Go.Proofs.Ytedhfgadphjobaa
