/- The laying of a Summary: its fields, the count, and its entries. -/
import Derived.Test.YtplkglepbedhoaaGfcnkkcda
import Derived.Deep.RegionHeld3
namespace Go.Proofs.Ytplkglepbedhoaa
open Go.RowKit Go.Sort
set_option linter.unusedVariables false
set_option linter.unusedSimpArgs false
set_option maxRecDepth 100000

theorem enters_moreSum (args : Array Value) (w : World) : (callFunc 165 args).run Try.prog w = .ok (.enter 165 args) w := enters_of Try.func165 (by kernel_rfl) rfl args w
theorem moreSum_is {w : World} {g K : Nat} (c : w.cell? ⟨g, 0, none⟩ = some (.int .i64 (K : Nat))) (i : Nat) :
    Calls Try.prog 165 #[.int .i64 (i : Int), .pointer (some ⟨g, 0, none⟩)] w fun e w' => e = .returned (.bool (decide (i < K))) ∧ w = w' := by
  go_enter Try.func165, Try.ntmps165
  go_wp2
  go_ret
  first
    | exact ⟨by simp, rfl⟩
    | exact ⟨rfl, rfl⟩

theorem readsR_passed {w w' : World} {gx N : Nat} {pv : Value} {S S' : PS} {a : Option Addr} {l : List (List Value)} (h : ReadsR w a N l) (k : Passed gx w pv S w' S') (hap : l ≠ [] → ∀ b off, a = some ⟨b, off, none⟩ → b < w.heap.size ∧ Apart w pv S b ∧ b ≠ gx) : ReadsR w' a N l := by
  obtain ⟨h1, h2 | ⟨g, off, e, hg, hc⟩⟩ := h
  · exact ⟨h1, .inl h2⟩
  · by_cases hl : l = []
    · exact ⟨h1, .inl hl⟩
    · obtain ⟨_, a2, a3⟩ := hap hl g off e
      exact ⟨h1, .inr ⟨g, off, e, Nat.lt_of_lt_of_le hg k.size, fun i u hi => (World.cell?_of_block (a := ⟨g, off + i, none⟩) (k.block g hg a2 a3)).trans (hc i u hi)⟩⟩

/-- Between two fields: the summary's cells, and the port where it is. -/
structure AtSum (gx : Nat) (w0 : World) (pv : Value) (S0 : PS) (cs : Array Value) (w : World) (S : PS) : Prop where
  row : w.heap[gx]? = some (.cells cs 48 (0, 0))
  passed : Passed gx w0 pv S0 w S
  size : gx < w0.heap.size
  away : Away w0 pv S0 gx
theorem AtSum.start {gx : Nat} {w : World} {pv : Value} {S : PS} {cs : Array Value} (hport : IsPort w pv S) (hx : w.heap[gx]? = some (.cells cs 48 (0, 0))) (hax : Away w pv S gx) : AtSum gx w pv S cs w S :=
  ⟨hx, passed_none hport, (Array.getElem?_eq_some_iff.1 hx).1, hax⟩
theorem AtSum.here {gx : Nat} {w0 w : World} {pv : Value} {S0 S : PS} {cs : Array Value} (h : AtSum gx w0 pv S0 cs w S) : Away w pv S gx := h.passed.away gx h.size h.away
theorem AtSum.u64 {gx m z q : Nat} {w0 w : World} {pv : Value} {S0 S : PS} {cs : Array Value} (h : AtSum gx w0 pv S0 cs w S) (hq : 1 ≤ q) (hq8 : q ≤ 8) (hf : S.fits q) (hc : cs[m]? = some (.int .u64 z)) (hz : z < 18446744073709551616) :
    Calls Try.prog 160 #[pv, .int .i64 q, .pointer (some ⟨gx, m, none⟩)] w fun e w' => e = .returned (.tuple #[]) ∧ AtSum gx w0 pv S0 (cs.setIfInBounds m (.int .u64 (S.num q z : Nat))) w' (S.next q z) :=
  (pnum_u64 h.passed.port h.row h.here q hq hq8 hf hc hz).mono fun e w' k => ⟨k.1, k.2.1, h.passed.trans k.2.2, h.size, h.away⟩
theorem AtSum.u32 {gx m z q : Nat} {w0 w : World} {pv : Value} {S0 S : PS} {cs : Array Value} (h : AtSum gx w0 pv S0 cs w S) (hq : 1 ≤ q) (hq8 : q ≤ 4) (hf : S.fits q) (hc : cs[m]? = some (.int .u32 z)) (hz : z < 4294967296) :
    Calls Try.prog 163 #[pv, .int .i64 q, .pointer (some ⟨gx, m, none⟩)] w fun e w' => e = .returned (.tuple #[]) ∧ AtSum gx w0 pv S0 (cs.setIfInBounds m (.int .u32 (S.num q z : Nat))) w' (S.next q z) ∧ Passed gx w pv S w' (S.next q z) :=
  (pnum_u32 h.passed.port h.row h.here q hq hq8 hf hc hz).mono fun e w' k => ⟨k.1, ⟨k.2.1, h.passed.trans k.2.2, h.size, h.away⟩, k.2.2⟩
theorem AtSum.i64 {gx m q : Nat} {z : Int} {w0 w : World} {pv : Value} {S0 S : PS} {cs : Array Value} (h : AtSum gx w0 pv S0 cs w S) (hq : 1 ≤ q) (hq8 : q ≤ 4) (hf : S.fits q) (hc : cs[m]? = some (.int .i64 z)) (hz : I64 z) :
    Calls Try.prog 162 #[pv, .int .i64 q, .pointer (some ⟨gx, m, none⟩)] w fun e w' => e = .returned (.tuple #[]) ∧ AtSum gx w0 pv S0 (cs.setIfInBounds m (.int .i64 (S.numI q z))) w' (S.next q (u64of z)) ∧ Passed gx w pv S w' (S.next q (u64of z)) :=
  (pnum_i64 h.passed.port h.row h.here q hq hq8 hf hc hz).mono fun e w' k => ⟨k.1, ⟨k.2.1, h.passed.trans k.2.2, h.size, h.away⟩, k.2.2⟩
theorem AtSum.flag {gx m : Nat} {b : Bool} {w0 w : World} {pv : Value} {S0 S : PS} {cs : Array Value} (h : AtSum gx w0 pv S0 cs w S) (hf : S.fits 1) (hc : cs[m]? = some (.bool b)) :
    Calls Try.prog 161 #[pv, .pointer (some ⟨gx, m, none⟩)] w fun e w' => e = .returned (.tuple #[]) ∧ AtSum gx w0 pv S0 (cs.setIfInBounds m (.bool (flagO S b))) w' (S.next 1 (u64of (flagN b))) :=
  (flag_is h.passed.port h.row h.here hf hc).mono fun e w' k => ⟨k.1, k.2.1, h.passed.trans k.2.2, h.size, h.away⟩
/-- The count, in a box of its own. -/
structure CountAt (gx : Nat) (w0 : World) (g : Nat) (z : Int) (w : World) (pv : Value) (S : PS) : Prop where
  row : w.heap[g]? = some (.cells #[.int .i64 z] 3 (0, 0))
  away : Away w pv S g
  new : w0.heap.size ≤ g
theorem CountAt.passed {gx g : Nat} {z : Int} {w0 w w' : World} {pv : Value} {S S' : PS} (h : CountAt gx w0 g z w pv S) (hx : gx < w0.heap.size) (k : Passed gx w pv S w' S') : CountAt gx w0 g z w' pv S' := by
  have hg : g < w.heap.size := (Array.getElem?_eq_some_iff.1 h.row).1
  have := h.new
  exact ⟨(k.block g hg h.away.apart (by omega)).trans h.row, k.away g hg h.away, h.new⟩
theorem AtSum.count {gx : Nat} {z : Int} {w0 w : World} {pv : Value} {S0 S : PS} {cs : Array Value} (h : AtSum gx w0 pv S0 cs w S) (hf : S.fits 1) (hz : I64 z) :
    Calls Try.prog 162 #[pv, .int .i64 1, .pointer (some ⟨w.heap.size, 0, none⟩)] (w.alloc (.cells #[.int .i64 z] 3)) fun e w' => e = .returned (.tuple #[]) ∧ AtSum gx w0 pv S0 cs w' (S.next 1 (u64of z)) ∧ CountAt gx w0 w.heap.size (S.numI 1 z) w' pv (S.next 1 (u64of z)) := by
  have q1 := below_box w (.cells #[.int .i64 z] 3)
  have m1 := heap_alloc_new w (.cells #[.int .i64 z] 3)
  obtain ⟨p1, p2, p3⟩ := port_kept h.passed.port (below_grown0 q1) (fun k hk => by cases hk)
  have hgw := Nat.lt_of_lt_of_le h.size h.passed.size
  refine (pnum_i64 (off := 0) p1 m1 ((p2 _).1 (port_fresh h.passed.port (Nat.le_refl _))) 1 (by decide) (by decide) hf rfl hz).mono ?_
  rintro e w' ⟨rfl, k1, k2⟩
  have hp : Passed gx w0 pv S0 (w.alloc (.cells #[.int .i64 z] 3)) S := passed_grown h.passed (below_grown0 q1) (fun k hk => by cases hk) (fun k hk => by cases hk)
  have hsz : (w.alloc (.cells #[.int .i64 z] 3)).heap.size = w.heap.size + 1 := by simp
  refine ⟨rfl, ⟨?_, passed_more hp k2 h.passed.size, h.size, h.away⟩, ⟨k1, k2.away _ (by omega) ((p2 _).1 (port_fresh h.passed.port (Nat.le_refl _))), h.passed.size⟩⟩
  exact (k2.block gx (by omega) ((p2 _).1 h.here).apart (by omega)).trans ((q1.block gx hgw).trans h.row)

def sumS (S : PS) (seq first : Nat) (commit : Bool) (n : Nat) (next : Int) (time : Nat) : PS := (((((S.next 8 seq).next 8 first).next 1 (u64of (flagN commit))).next 1 (u64of (n : Int))).next 2 (u64of next)).next 4 time
def sumC (S : PS) (seq first : Nat) (commit : Bool) (n : Nat) (next : Int) (time : Nat) (v : Value) : Array Value :=
  #[.int .u64 (S.num 8 seq : Nat), .int .u64 ((S.next 8 seq).num 8 first : Nat), .bool (flagO ((S.next 8 seq).next 8 first) commit),
    .int .i64 (((((S.next 8 seq).next 8 first).next 1 (u64of (flagN commit))).next 1 (u64of (n : Int))).numI 2 next),
    .int .u32 ((((((S.next 8 seq).next 8 first).next 1 (u64of (flagN commit))).next 1 (u64of (n : Int))).next 2 (u64of next)).num 4 time : Nat), v]
def SumPost (gx : Nat) (w : World) (pv : Value) (S : PS) (seq first : Nat) (commit : Bool) (next : Int) (time : Nat) (L : List (List FldD)) (K : Nat) (e : Ending) (w' : World) : Prop :=
  e = .returned (.tuple #[]) ∧ ∃ v, w'.heap[gx]? = some (.cells (sumC S seq first commit L.length next time v) 48 (0, 0)) ∧ OwnsR' w.heap.size w' 163 4 v ((runD zeroEntry L (sumS S seq first commit L.length next time) K).map rowV) ∧ Passed gx w pv S w' (runS zeroEntry L (sumS S seq first commit L.length next time) K)
end Go.Proofs.Ytplkglepbedhoaa
