/- The fixed fact of layer 1's laws, by its walk. -/
import Derived.Test.YtgakidimipipeaaMem
import Derived.Laws.CopyOwn
namespace Go.Proofs.Ytgakidimipipeaa
open Go.RowKit
set_option linter.unusedVariables false
set_option maxRecDepth 100000

/-! The contracts over plain integers. -/
theorem put_yes_int (g off len cap : Nat) (cur : Array Value) (e0 : TypeId) (p q n : Int) (w : World) (hg : w.heap[g]? = some (.cells cur e0 (0, 0))) (hfit : off + len ≤ cur.size)
    (hl : len ≤ maxLen) (hp : 0 ≤ p) (hq : 1 ≤ q) (hq8 : q ≤ 8) (hpq : p + q ≤ len) (hn : 0 ≤ n) (h : n < ((256 ^ q.toNat : Nat) : Int)) :
    Calls Try.prog 136 #[.slice (some ⟨g, off, none⟩) len cap, .int .i64 p, .int .i64 q, .int .u64 n] w fun e w' => e = .returned (.int .i64 0) ∧ w.setRow g (laid cur (off + p.toNat) (low n.toNat q.toNat)) = w' := by
  obtain ⟨p, rfl⟩ := Int.eq_ofNat_of_zero_le hp
  obtain ⟨q, rfl⟩ := Int.eq_ofNat_of_zero_le (show 0 ≤ q by omega)
  obtain ⟨n, rfl⟩ := Int.eq_ofNat_of_zero_le hn
  simp only [Int.toNat_natCast] at h ⊢
  exact put_yes g off len cap cur e0 p q n w hg hfit hl (by omega) (by omega) (by omega) (by omega)
theorem get_yes_int (a : Option Addr) (len cap : Nat) (l : List Nat) (p q : Int) (w : World) (hr : Reads w a len l) (hl : len ≤ maxLen) (hp : 0 ≤ p) (hq : 1 ≤ q) (hq8 : q ≤ 8) (hpq : p + q ≤ len) :
    Calls Try.prog 143 #[.slice a len cap, .int .i64 p, .int .i64 q] w fun e w' => e = .returned (.tuple #[.int .u64 (le ((l.drop p.toNat).take q.toNat) : Nat), .int .i64 0]) ∧ w = w' := by
  obtain ⟨p, rfl⟩ := Int.eq_ofNat_of_zero_le hp
  obtain ⟨q, rfl⟩ := Int.eq_ofNat_of_zero_le (show 0 ≤ q by omega)
  simp only [Int.toNat_natCast]
  exact get_yes a len cap l p q w hr hl (by omega) (by omega) (by omega)

theorem Reads.of_row {w : World} {g off len : Nat} {l : List Nat} {cur : Array Value} {e0 : TypeId} {fr : Nat × Nat} (hg : w.heap[g]? = some (.cells cur e0 fr)) (hb : Bytes l) (hlen : l.length = len)
    (h : ∀ i, i < len → cur[off + i]? = some (byteV (l.getD i 0))) : Reads w (some ⟨g, off, none⟩) len l := by
  refine ⟨hlen, hb, .inr ⟨g, off, rfl, (Array.getElem?_eq_some_iff.1 hg).1, fun i hi => ?_⟩⟩
  simpa [World.cell?, hg, byteV] using h i hi

end Go.Proofs.Ytgakidimipipeaa

