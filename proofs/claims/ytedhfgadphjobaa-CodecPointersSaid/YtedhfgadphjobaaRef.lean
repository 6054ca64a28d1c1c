/- The document's own answers on numbers in bytes (Has, Low, Put), by their walks. -/
import Derived.Test.YtedhfgadphjobaaMem
namespace Go.Proofs.Ytedhfgadphjobaa
open Go.RowKit
set_option linter.unusedVariables false
set_option maxRecDepth 100000

/-- has a number room in so many bytes? -/
def hasB (q : Int) (n : Nat) : Bool := decide (1 ≤ q ∧ q ≤ 8 ∧ n < 256 ^ q.toNat)
theorem hasB_no {q : Int} {n : Nat} (h : ¬ (1 ≤ q ∧ q ≤ 8)) : hasB q n = false := by
  unfold hasB; apply decide_eq_false; rintro ⟨h1, h2, _⟩; exact h ⟨h1, h2⟩
theorem hasB_end {q n : Nat} (h1 : 1 ≤ q) (h2 : q ≤ 8) : (((n / 256 ^ q : Nat) : Int) == 0) = hasB q n := by
  unfold hasB
  rw [Bool.eq_iff_iff]
  simp only [beq_iff_eq, decide_eq_true_eq, Int.toNat_natCast]
  have hp : 0 < 256 ^ q := Nat.pow_pos (by decide)
  constructor
  · intro h
    have h0 : n / 256 ^ q = 0 := by omega
    exact ⟨by omega, by omega, (Nat.div_eq_zero_iff_lt hp).1 h0⟩
  · rintro ⟨_, _, h⟩
    rw [Nat.div_eq_of_lt h]; rfl

theorem reads_one (w : World) (x : Nat) (hx : x < 256) : Reads (w.alloc (.cells #[byteV x] 5)) (some ⟨w.heap.size, 0, none⟩) 1 [x] := by
  refine ⟨rfl, by intro y hy; simp at hy; omega, .inr ⟨w.heap.size, 0, rfl, by simp, fun i hi => ?_⟩⟩
  have : i = 0 := by omega
  subst this
  unfold World.cell?
  rw [heap_alloc_new]
  rfl

theorem Owns.alloc {B : Nat} {w : World} {v : Value} {l : List Nat} (h : Owns B w v l) (o : Obj) : Owns B (w.alloc o) v l := ⟨h.1, h.2.alloc o⟩
theorem Owns.lt {B : Nat} {w : World} {v : Value} {l : List Nat} (h : Owns B w v l) : ∀ k, v.ownBlock = some k → B ≤ k := fun k hk => (h.2.lt k hk).1
theorem owns_nil (B : Nat) (w : World) : Owns B w (.slice none 0 0) [] := ⟨by intro x hx; simp at hx, World.ownsRow_nil w B 5 1⟩

set_option maxHeartbeats 400000 in
theorem low_any (n q : Nat) (w : World) (hq : q ≤ 8) (hn : n < 18446744073709551616) :
    Calls Try.prog 86 #[.int .u64 n, .int .i64 q] w fun e w' => ∃ v, e = .returned v ∧ Owns w.heap.size w' v (low n q) ∧ Below w.heap.size w w' := by
  go_enter Try.func86, Try.ntmps86
  go_wp2
  go_loopw [0, 5, 6] (fun m v i wr => ∃ k : Nat, k ≤ q ∧ i = .int .i64 k ∧ m = .int .u64 ((n / 256 ^ k : Nat) : Int) ∧ Owns w.heap.size wr v (low n k) ∧ Below w.heap.size w wr) (fun _ _ i _ => q - (intOf i).toNat)
  case atStart => exact ⟨0, by omega, rfl, by simp, owns_nil _ _, Below.refl _ _⟩
  case round =>
    obtain ⟨k, hk, rfl, rfl, ho, hb⟩ := hrel
    by_cases hlt : k < q
    · have hd : n / 256 ^ k / 256 = n / 256 ^ (k + 1) := by rw [Nat.div_div_eq_div_mul, ← Nat.pow_succ]
      have hle : n / 256 ^ k ≤ n := Nat.div_le_self _ _
      have HL := Lib.hid (low_snoc n k)
      have hll := low_length n k
      have HD := Lib.hid hd
      clear hd
      obtain ⟨m, hm⟩ : ∃ m, m = n / 256 ^ k := ⟨_, rfl⟩
      rw [← hm] at hle HD HL ⊢
      have HM := Lib.hid hm
      clear hm
      have ho' := ho.alloc (.cells #[byteV (m % 256)] 5)
      have hr := reads_one wr (m % 256) (by omega)
      have hbs := hb.size
      go_wp2_with (at_builtin; refine wpList_append_bytes rfl _ _ rfl w.heap.size _ _ rfl ho' _ _ _ rfl _ hr (by rw [hll]; omega) (by simp; omega) ?_; intro v' w' h1 h2)
      go_roundw
      case rel => exact ⟨k + 1, by omega, by go_num, by rw [← HD.out]; rfl, by rw [HL.out]; exact h1, (hb.alloc hbs _).grown h2 (by simp; omega) (fun j hj => ho'.lt j hj)⟩
      case measure => simp [intOf]; omega
    · have e : k = q := by omega
      subst e
      go_wp2
      go_ret
      exact ⟨_, rfl, ho, hb⟩

theorem Owns.below {B : Nat} {w w' : World} {v : Value} {l : List Nat} (h : Owns B w v l) (hb : Below w.heap.size w w') : Owns B w' v l := by
  obtain ⟨h1, h2, h3⟩ := h
  refine ⟨h1, h2, ?_⟩
  rcases h3 with h3 | ⟨g, cap, cur, hv, hg, hh, r⟩
  · exact .inl h3
  · exact .inr ⟨g, cap, cur, hv, hg, by rw [hb.block g (Array.getElem?_eq_some_iff.1 hh).1]; exact hh, r⟩
theorem Reads.take {w : World} {a : Option Addr} {len : Nat} {l : List Nat} (h : Reads w a len l) (p : Nat) (hp : p ≤ len) : Reads w a p (l.take p) := by
  obtain ⟨h1, h2, h3⟩ := h
  refine ⟨by simp; omega, h2.take p, ?_⟩
  rcases h3 with rfl | ⟨b, off, he, hbl, hcc⟩
  · left; simp
  · refine .inr ⟨b, off, he, hbl, fun i hi => ?_⟩
    rw [hcc i (by omega)]
    simp [List.getD, hi]
/-- The rest of a slice, at the address that the walk reckons. -/
theorem Reads.rest {w : World} {b off len : Nat} {l : List Nat} (h : Reads w (some ⟨b, off, none⟩) len l) (p : Nat) (hp : p ≤ len) (a' : Option Addr) (ha : p < len → a' = some ⟨b, off + p, none⟩) : Reads w a' (len - p) (l.drop p) := by
  by_cases hlt : p < len
  · have := h.part p (len - p) (by omega)
    rw [ha hlt]
    rw [List.take_of_length_le (by have := h.1; simp; omega)] at this
    exact this
  · obtain ⟨h1, h2, h3⟩ := h
    exact ⟨by simp; omega, h2.drop p, .inl (List.drop_of_length_le (by omega))⟩

/-- Bytes with a number in them. -/
def putL (l : List Nat) (p q n : Nat) : List Nat := l.take p ++ low n q ++ l.drop (p + q)

end Go.Proofs.Ytedhfgadphjobaa
