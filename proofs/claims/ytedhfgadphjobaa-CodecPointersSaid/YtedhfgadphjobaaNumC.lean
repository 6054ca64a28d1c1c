/- Writing a number into bytes: num.Put by its walk. -/
import Derived.Test.YtedhfgadphjobaaMem
import Derived.Laws.CopyRow
namespace Go.Proofs.Ytedhfgadphjobaa
open Go.RowKit
set_option linter.unusedVariables false
set_option maxRecDepth 100000



/-- Cells with bytes in the place of some of them. -/
def laid (cur : Array Value) (at_ : Nat) (l : List Nat) : Array Value := (cur.toList.take at_ ++ l.map byteV ++ cur.toList.drop (at_ + l.length)).toArray

theorem laid_nil (cur : Array Value) (at_ : Nat) : laid cur at_ [] = cur := by simp [laid]
theorem laid_size (cur : Array Value) (at_ : Nat) (l : List Nat) (h : at_ + l.length ≤ cur.size) : (laid cur at_ l).size = cur.size := by
  simp [laid]; omega
theorem laid_snoc (cur : Array Value) (at_ : Nat) (l : List Nat) (x : Nat) (h : at_ + l.length < cur.size) : (laid cur at_ l).setIfInBounds (at_ + l.length) (byteV x) = laid cur at_ (l ++ [x]) := by
  apply Array.ext'
  rw [Array.toList_setIfInBounds]
  simp only [laid, List.map_append, List.map_cons, List.map_nil, List.length_append, List.length_cons, List.length_nil]
  have h1 : (cur.toList.take at_ ++ l.map byteV).length = at_ + l.length := by simp; omega
  have h2 : cur.toList.drop (at_ + l.length) = (cur[at_ + l.length]) :: cur.toList.drop (at_ + (l.length + 1)) := by
    rw [List.drop_eq_getElem_cons (by simpa using h)]
    simp [Nat.add_assoc]
  rw [h2, List.set_append_right _ _ (by omega), h1]
  simp [List.append_assoc]

set_option maxHeartbeats 400000 in
theorem put_no_room (a : Option Addr) (len cap : Nat) (p q n : Int) (w : World) (hl : len ≤ maxLen) (hp : I64 p) (hq : I64 q) (h : roomB len p q = false) :
    Calls Try.prog 71 #[.slice a len cap, .int .i64 p, .int .i64 q, .int .u64 n] w fun e w' => e = .returned (.int .i64 1) ∧ w = w' := by
  go_enter Try.func71, Try.ntmps71
  go_wp2_with (go_at_call 103; refine (stands_any _ _ _ _ _ _ hl hp hq).mono ?_; rintro e w' ⟨rfl, rfl⟩)
  go_ret
  exact ⟨rfl, rfl⟩

set_option maxHeartbeats 400000 in
theorem put_too_great (a : Option Addr) (len cap : Nat) (p q : Nat) (n : Nat) (w : World) (hl : len ≤ maxLen) (hq : 1 ≤ q) (hq8 : q ≤ 8) (hpq : p + q ≤ len) (hn : n < 18446744073709551616) (h : 256 ^ q ≤ n) :
    Calls Try.prog 71 #[.slice a len cap, .int .i64 p, .int .i64 q, .int .u64 n] w fun e w' => e = .returned (.int .i64 1) ∧ w = w' := by
  have hm : len ≤ 9223372036854775807 := by unfold maxLen at hl; omega
  have ht := great_yes h
  have hs := roomB_mk (len := len) (p := (p : Int)) (q := (q : Int)) (by omega)
  go_enter Try.func71, Try.ntmps71
  go_wp2_with (go_at_call 103; refine (stands_any _ _ _ _ _ _ hl ⟨by omega, by omega⟩ ⟨by omega, by omega⟩).mono ?_; rintro e w' ⟨rfl, rfl⟩)
  go_ret
  exact ⟨rfl, rfl⟩

set_option maxHeartbeats 400000 in
theorem put_yes (g off len cap : Nat) (cur : Array Value) (e0 : TypeId) (p q : Nat) (n : Nat) (w : World) (hg : w.heap[g]? = some (.cells cur e0 (0, 0))) (hfit : off + len ≤ cur.size)
    (hl : len ≤ maxLen) (hq : 1 ≤ q) (hq8 : q ≤ 8) (hpq : p + q ≤ len) (h : n < 256 ^ q) :
    Calls Try.prog 71 #[.slice (some ⟨g, off, none⟩) len cap, .int .i64 p, .int .i64 q, .int .u64 n] w fun e w' => e = .returned (.int .i64 0) ∧ w.setRow g (laid cur (off + p) (low n q)) = w' := by
  have hm : len ≤ 9223372036854775807 := by unfold maxLen at hl; omega
  have ht := great_no h
  have hn : n < 18446744073709551616 := Nat.lt_of_lt_of_le h (pow256_le q hq8)
  have hs := roomB_mk (len := len) (p := (p : Int)) (q := (q : Int)) (by omega)
  go_enter Try.func71, Try.ntmps71
  go_wp2_with (go_at_call 103; refine (stands_any _ _ _ _ _ _ hl ⟨by omega, by omega⟩ ⟨by omega, by omega⟩).mono ?_; rintro e w' ⟨rfl, rfl⟩)
  go_loopw [9, 23] (fun _ i wr => ∃ k : Nat, k ≤ q ∧ i = .int .i64 k ∧ Hid (w.setRow g (laid cur (off + p) (low n k)) = wr)) (fun _ i _ => q - (intOf i).toNat)
  case atStart => exact ⟨0, by omega, rfl, by show _ = _; rw [low, laid_nil, setRow_self _ _ _ _ _ hg]⟩
  case round =>
    obtain ⟨k, hk, rfl, H⟩ := hrel
    by_cases hlt : k < q
    · have hll := low_length n k
      have hsz := laid_size cur (off + p) (low n k) (by omega)
      have hheap : wr.heap[g]? = some (.cells (laid cur (off + p) (low n k)) e0 (0, 0)) := by rw [← H.out]; exact setRow_heap _ _ _ _ _ _ hg
      have hcell : ∃ u, wr.cell? ⟨g, off + (p + k), none⟩ = some u := by
        refine ⟨(laid cur (off + p) (low n k))[off + (p + k)]'(by omega), ?_⟩
        simp [World.cell?, hheap]
      obtain ⟨u, hcell⟩ := hcell
      have hfz : wr.frozen? ⟨g, off + (p + k), none⟩ = false := by simp [World.frozen?, hheap]
      have hstep : Hid (w.setRow g (laid cur (off + p) (low n (k + 1))) = wr.setCell ⟨g, off + (p + k), none⟩ (byteV (n / 256 ^ k % 256))) := by
        show _ = _
        rw [setCell_eq_setRow wr g _ _ _ _ _ hheap, ← H.out, setRow_setRow, low_snoc, ← laid_snoc _ _ _ _ (by omega), hll, Nat.add_assoc]
      have Hg := Lib.hid hg
      have Hh := Lib.hid hheap
      clear hg hheap hll hsz
      go_wp2
      go_roundw
      case rel => exact ⟨k + 1, by omega, by go_num, by rw [byte_of]; exact hstep⟩
      case measure => simp [intOf]; omega
    · go_wp2
      go_ret
      have e : k = q := by omega
      subst e
      exact ⟨rfl, H.out⟩
end Go.Proofs.Ytedhfgadphjobaa
