/- The fixed fact of layer 1's laws, by its walk. -/
import Derived.Test.YtdcnmfkhalfjcaaNumC
import Derived.Laws.CopyOwn
namespace Go.Proofs.Ytdcnmfkhalfjcaa
open Go.RowKit
set_option linter.unusedVariables false

/-! The contracts over plain integers. -/
theorem put_yes_int (g off len cap : Nat) (cur : Array Value) (e0 : TypeId) (p q n : Int) (w : World) (hg : w.heap[g]? = some (.cells cur e0 (0, 0))) (hfit : off + len ≤ cur.size)
    (hl : len ≤ maxLen) (hp : 0 ≤ p) (hq : 1 ≤ q) (hq8 : q ≤ 8) (hpq : p + q ≤ len) (hn : 0 ≤ n) (h : n < ((256 ^ q.toNat : Nat) : Int)) :
    Calls Try.prog 15 #[.slice (some ⟨g, off, none⟩) len cap, .int .i64 p, .int .i64 q, .int .u64 n] w fun e w' => e = .returned (.int .i64 0) ∧ w.setRow g (laid cur (off + p.toNat) (low n.toNat q.toNat)) = w' := by
  obtain ⟨p, rfl⟩ := Int.eq_ofNat_of_zero_le hp
  obtain ⟨q, rfl⟩ := Int.eq_ofNat_of_zero_le (show 0 ≤ q by omega)
  obtain ⟨n, rfl⟩ := Int.eq_ofNat_of_zero_le hn
  simp only [Int.toNat_natCast] at h ⊢
  exact put_yes g off len cap cur e0 p q n w hg hfit hl (by omega) (by omega) (by omega) (by omega)
theorem get_yes_int (a : Option Addr) (len cap : Nat) (l : List Nat) (p q : Int) (w : World) (hr : Reads w a len l) (hl : len ≤ maxLen) (hp : 0 ≤ p) (hq : 1 ≤ q) (hq8 : q ≤ 8) (hpq : p + q ≤ len) :
    Calls Try.prog 18 #[.slice a len cap, .int .i64 p, .int .i64 q] w fun e w' => e = .returned (.tuple #[.int .u64 (le ((l.drop p.toNat).take q.toNat) : Nat), .int .i64 0]) ∧ w = w' := by
  obtain ⟨p, rfl⟩ := Int.eq_ofNat_of_zero_le hp
  obtain ⟨q, rfl⟩ := Int.eq_ofNat_of_zero_le (show 0 ≤ q by omega)
  simp only [Int.toNat_natCast]
  exact get_yes a len cap l p q w hr hl (by omega) (by omega) (by omega)

theorem Reads.of_row {w : World} {g off len : Nat} {l : List Nat} {cur : Array Value} {e0 : TypeId} {fr : Nat × Nat} (hg : w.heap[g]? = some (.cells cur e0 fr)) (hb : Bytes l) (hlen : l.length = len)
    (h : ∀ i, i < len → cur[off + i]? = some (byteV (l.getD i 0))) : Reads w (some ⟨g, off, none⟩) len l := by
  refine ⟨hlen, hb, .inr ⟨g, off, rfl, (Array.getElem?_eq_some_iff.1 hg).1, fun i hi => ?_⟩⟩
  simpa [World.cell?, hg, byteV] using h i hi

theorem make4 (w : World) : (Instr.makeSlice 22 (.int .i64 4) (.int .i64 4)).run Try.prog w = .ok (.slice (some ⟨w.heap.size, 0, none⟩) 4 4) (w.alloc (.cells #[.int .u8 0, .int .u8 0, .int .u8 0, .int .u8 0] 5)) := by kernel_rfl

theorem awake_true (w : World) : Calls Try.prog 13 #[] w fun e w' => e = .returned (.bool true) ∧ Below w.heap.size w w' := by
  have hmk := make4
  have hg := heap_alloc_new w (.cells #[.int .u8 0, .int .u8 0, .int .u8 0, .int .u8 0] 5)
  have Hg := Lib.hid hg
  clear hg
  have hno : roomB 4 1 4 = false := by decide
  go_enter Try.func13, Try.ntmps13
  go_wp2_with fail
  refine (put_yes_int _ _ _ _ _ _ _ _ _ _ Hg.out (by decide) (by decide) (by decide) (by decide) (by decide) (by decide) (by decide) (by decide)).mono ?_
  rintro e w' ⟨rfl, hw'⟩
  have hg' : w'.heap[w.heap.size]? = some (.cells #[.int .u8 0, .int .u8 2, .int .u8 1, .int .u8 0] 5 (0, 0)) := by
    rw [← hw', setRow_heap _ _ _ _ _ _ Hg.out]; rfl
  have hb : Below w.heap.size w w' := by rw [← hw']; exact below_setRow ((Below.refl _ _).alloc (Nat.le_refl _) _) (Nat.le_refl _) _
  have Hb := Lib.hid hb
  have hread : Reads w' (some ⟨w.heap.size, 0, none⟩) 4 [0, 2, 1, 0] := by
    refine Reads.of_row hg' (by intro x hx; simp at hx; omega) rfl (fun i hi => ?_)
    have : i = 0 ∨ i = 1 ∨ i = 2 ∨ i = 3 := by omega
    rcases this with rfl | rfl | rfl | rfl <;> rfl
  have Hr := Lib.hid hread
  clear hb hread hg' hw'
  go_wp2_with fail
  refine (get_yes_int _ _ _ _ _ _ _ Hr.out (by decide) (by decide) (by decide) (by decide) (by decide)).mono ?_
  rintro e w'' ⟨rfl, rfl⟩
  go_wp2_with fail
  refine (put_no_room _ _ _ _ _ _ _ (by decide) (by unfold I64; decide) (by unfold I64; decide) hno).mono ?_
  rintro e w'' ⟨rfl, rfl⟩
  go_wp2
  go_ret
  exact ⟨rfl, Hb.out⟩
end Go.Proofs.Ytdcnmfkhalfjcaa

