/- Reading a number of bytes: num.Get by its walk. -/
import Derived.Test.YtgakidimipipeaaNumA
import Derived.Test.YtgakidimipipeaaMath
namespace Go.Proofs.Ytgakidimipipeaa
open Go.RowKit
set_option linter.unusedVariables false
set_option maxRecDepth 100000

/-- The slice's elements are these bytes. -/
def Reads (w : World) (a : Option Addr) (len : Nat) (l : List Nat) : Prop :=
  l.length = len ∧ Bytes l ∧ (l = [] ∨ ∃ b off, a = some ⟨b, off, none⟩ ∧ b < w.heap.size ∧ ∀ i, i < len → w.cell? ⟨b, off + i, none⟩ = some (.int .u8 ((l.getD i 0 : Nat) : Int)))

set_option maxHeartbeats 400000 in
theorem get_no (a : Option Addr) (len cap : Nat) (p q : Int) (w : World) (hl : len ≤ maxLen) (hp : I64 p) (hq : I64 q) (h : roomB len p q = false) :
    Calls Try.prog 143 #[.slice a len cap, .int .i64 p, .int .i64 q] w fun e w' => e = .returned (.tuple #[.int .u64 0, .int .i64 1]) ∧ w = w' := by
  go_enter Try.func143, Try.ntmps143
  go_wp2_with (go_at_call 142; refine (stands_any _ _ _ _ _ _ hl hp hq).mono ?_; rintro e w' ⟨rfl, rfl⟩)
  go_ret2
  exact ⟨rfl, rfl⟩

set_option maxHeartbeats 400000 in
theorem get_yes (a : Option Addr) (len cap : Nat) (l : List Nat) (p q : Nat) (w : World) (hr : Reads w a len l) (hl : len ≤ maxLen) (hq : 1 ≤ q) (hq8 : q ≤ 8) (hpq : p + q ≤ len) :
    Calls Try.prog 143 #[.slice a len cap, .int .i64 p, .int .i64 q] w fun e w' => e = .returned (.tuple #[.int .u64 (le ((l.drop p).take q) : Nat), .int .i64 0]) ∧ w = w' := by
  have hm : len ≤ 9223372036854775807 := by unfold maxLen at hl; omega
  have hs := roomB_mk (len := len) (p := (p : Int)) (q := (q : Int)) (by omega)
  obtain ⟨hlen, hb, hr⟩ := hr
  rcases hr with rfl | ⟨b, off, rfl, hbl, hc⟩
  · simp at hlen; omega
  have Hlen := Lib.hid hlen
  clear hlen
  go_enter Try.func143, Try.ntmps143
  go_wp2_with (go_at_call 142; refine (stands_any _ _ _ _ _ _ hl ⟨by omega, by omega⟩ ⟨by omega, by omega⟩).mono ?_; rintro e w' ⟨rfl, rfl⟩)
  go_loop [8, 9, 16] (fun n _ i => ∃ k : Nat, k ≤ q ∧ i = .int .i64 k ∧ n = .int .u64 (le ((l.drop p).take k) : Nat)) (fun _ _ i => q - (intOf i).toNat)
  case atStart => exact ⟨0, by omega, rfl, rfl⟩
  case round =>
    obtain ⟨k, hk, rfl, rfl⟩ := hrel
    by_cases hlt : k < q
    · have hcell := hc (p + k) (by omega)
      clear hc
      go_wp2
      go_round
      case rel =>
        have hk1 : k < ((l.drop p).length) := by have := Hlen.out; simp; omega
        have e1 := take_snoc_getD (l.drop p) k hk1
        have e2 : (l.drop p).getD k 0 = l[p + k]?.getD 0 := by simp [List.getD]
        have e3 : ((l.drop p).take k).length = k := by simp; have := Hlen.out; omega
        have hn := le_lt _ ((hb.drop p).take k)
        rw [e3] at hn
        refine ⟨k + 1, by omega, by go_num, ?_⟩
        rw [or_byte_wrapped _ _ k (by omega) hn (by have := hb.getD (p + k); simpa [List.getD] using this), e1, le_snoc, e3, e2]
      case measure => simp [intOf]; omega
    · go_wp2
      go_ret2
      have : k = q := by omega
      exact ⟨by rw [this]; rfl, rfl⟩

/-- A part of a slice reads as that part of its bytes. -/
theorem Reads.part {w : World} {b off len : Nat} {l : List Nat} (h : Reads w (some ⟨b, off, none⟩) len l) (p q : Nat) (hpq : p + q ≤ len) : Reads w (some ⟨b, off + p, none⟩) q ((l.drop p).take q) := by
  obtain ⟨hlen, hb, hr⟩ := h
  refine ⟨by simp; omega, (hb.drop p).take q, ?_⟩
  by_cases hq : q = 0
  · left; simp [hq]
  rcases hr with rfl | ⟨b', off', he, hbl, hc⟩
  · simp at hlen; omega
  · cases he
    refine .inr ⟨b, off + p, rfl, hbl, fun i hi => ?_⟩
    rw [Nat.add_assoc, hc (p + i) (by omega)]
    simp [List.getD, hi]

end Go.Proofs.Ytgakidimipipeaa
