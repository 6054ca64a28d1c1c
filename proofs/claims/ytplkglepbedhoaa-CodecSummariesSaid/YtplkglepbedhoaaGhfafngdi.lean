/- The contracts of the law CodecSummaries over plain numbers. -/
import Derived.Test.YtplkglepbedhoaaGebjhbpim
import Derived.Test.YtplkglepbedhoaaGiifnbfag
import Derived.Test.YtplkglepbedhoaaGammhkoib
namespace Go.Proofs.Ytplkglepbedhoaa
open Go.RowKit Go.Sort
set_option linter.unusedVariables false
set_option linter.unusedSimpArgs false
set_option maxRecDepth 100000

theorem told2 {y0 y1 : Nat} {y2 : Bool} {y3 : Int} {y4 n : Nat} {L : List (List FldD)} (h : OkD ⟨y0, y1, y2, y3, y4, L⟩) (hn : L.length = n) (hl : n ≤ 1000) {w : World} {a : Option Addr} {cap : Nat} (hra : ReadsR w a 4 (L.map rowV)) :
    Calls Try.prog 23 #[.agg #[.int .u64 (y0 : Nat), .int .u64 (y1 : Nat), .bool y2, .int .i64 y3, .int .u32 (y4 : Nat), .slice a n cap]] w fun e w' => Below w.heap.size w w' ∧ ∃ a' c', e = .returned (.agg #[.int .u64 (y0 : Nat), .int .u64 (y1 : Nat), .bool y2, .int .i64 y3, .int .u32 (y4 : Nat), (.slice a' n c')]) ∧ ReadsR w' a' 4 (L.map rowV) := by
  subst hn
  refine (toldSum_is (D := ⟨y0, y1, y2, y3, y4, L⟩) h hl hra).mono ?_
  rintro e w' ⟨b, v, rfl, o⟩
  obtain ⟨a', c', rfl, hr, _⟩ := owned_list o
  exact ⟨b, a', c', rfl, hr⟩
theorem own2 {y0 y1 : Nat} {y2 : Bool} {y3 : Int} {y4 n : Nat} {L : List (List FldD)} (h : OkD ⟨y0, y1, y2, y3, y4, L⟩) (hn : L.length = n) (hl : n ≤ 1000) {w : World} {a : Option Addr} {cap : Nat} (hra : ReadsR w a 4 (L.map rowV)) :
    Calls Try.prog 19 #[.agg #[.int .u64 (y0 : Nat), .int .u64 (y1 : Nat), .bool y2, .int .i64 y3, .int .u32 (y4 : Nat), .slice a n cap]] w fun e w' => Below w.heap.size w w' ∧ ∃ a' c', e = .returned (.agg #[.int .u64 (y0 : Nat), .int .u64 (y1 : Nat), .bool y2, .int .i64 y3, .int .u32 (y4 : Nat), (.slice a' n c')]) ∧ ReadsR w' a' 4 (L.map rowV) := by
  subst hn
  refine (ownSum_is (D := ⟨y0, y1, y2, y3, y4, L⟩) h hl hra).mono ?_
  rintro e w' ⟨b, v, rfl, o⟩
  obtain ⟨a', c', rfl, hr, _⟩ := owned_list o
  exact ⟨b, a', c', rfl, hr⟩
theorem same2 {y0 y1 : Nat} {y2 : Bool} {y3 : Int} {y4 n : Nat} {L : List (List FldD)} (h : OkD ⟨y0, y1, y2, y3, y4, L⟩) (hn : L.length = n) (hl : n ≤ 1000) {w : World} {a b : Option Addr} {cap capb : Nat} (hra : ReadsR w a 4 (L.map rowV)) (hrb : ReadsR w b 4 (L.map rowV)) :
    Calls Try.prog 22 #[.agg #[.int .u64 (y0 : Nat), .int .u64 (y1 : Nat), .bool y2, .int .i64 y3, .int .u32 (y4 : Nat), .slice a n cap], .agg #[.int .u64 (y0 : Nat), .int .u64 (y1 : Nat), .bool y2, .int .i64 y3, .int .u32 (y4 : Nat), .slice b n capb]] w fun e w' => e = .returned (.bool true) ∧ Below w.heap.size w w' := by
  subst hn
  exact sameSum_is (D := ⟨y0, y1, y2, y3, y4, L⟩) h hl hra hrb
theorem write2 {y0 y1 : Nat} {y2 : Bool} {y3 : Int} {y4 n : Nat} {L : List (List FldD)} (h : OkD ⟨y0, y1, y2, y3, y4, L⟩) (hn : L.length = n) {w : World} {a : Option Addr} {cap : Nat} (hra : ReadsR w a 4 (L.map rowV)) :
    Calls Try.prog 18 #[.agg #[.int .u64 (y0 : Nat), .int .u64 (y1 : Nat), .bool y2, .int .i64 y3, .int .u32 (y4 : Nat), .slice a n cap]] w fun e w' => e = .returned (.tuple #[.agg (cells (writeD ⟨y0, y1, y2, y3, y4, L⟩).1), .int .i64 (writeD ⟨y0, y1, y2, y3, y4, L⟩).2]) ∧ Below w.heap.size w w' := by
  subst hn
  exact writeSummary_is (D := ⟨y0, y1, y2, y3, y4, L⟩) h hra
theorem rwrite2 {y0 y1 : Nat} {y2 : Bool} {y3 : Int} {y4 n : Nat} {L : List (List FldD)} (h : OkD ⟨y0, y1, y2, y3, y4, L⟩) (hn : L.length = n) (hl : n ≤ 100) {w : World} {a : Option Addr} {cap : Nat} (hra : ReadsR w a 4 (L.map rowV)) :
    Calls Try.prog 20 #[.agg #[.int .u64 (y0 : Nat), .int .u64 (y1 : Nat), .bool y2, .int .i64 y3, .int .u32 (y4 : Nat), .slice a n cap]] w fun e w' => e = .returned (.tuple #[.agg (cells (writeD ⟨y0, y1, y2, y3, y4, L⟩).1), .bool (decide ((writeD ⟨y0, y1, y2, y3, y4, L⟩).2 = 0))]) ∧ Below w.heap.size w w' := by
  subst hn
  exact rwriteSum_is (D := ⟨y0, y1, y2, y3, y4, L⟩) h hra hl
theorem read2 {y0 y1 : Nat} {y2 : Bool} {y3 : Int} {y4 n : Nat} {L : List (List FldD)} {er : Int} (s : List Nat) (hs : s.length = 128) (hb : Bytes s) (he : readSm s = (⟨y0, y1, y2, y3, y4, L⟩, er)) (hn : L.length = n) (w : World) :
    Calls Try.prog 21 #[.agg (cells s)] w fun e w' => Below w.heap.size w w' ∧ ∃ a c, e = .returned (.tuple #[.agg #[.int .u64 (y0 : Nat), .int .u64 (y1 : Nat), .bool y2, .int .i64 y3, .int .u32 (y4 : Nat), (.slice a n c)], .int .i64 er]) ∧ ReadsR w' a 4 (L.map rowV) := by
  subst hn
  refine (readSummary_is s hs hb w).mono ?_
  rw [he]
  rintro e w' ⟨b, v, rfl, o⟩
  obtain ⟨a', c', rfl, hr, _⟩ := owned_list (L := L) o
  exact ⟨b, a', c', rfl, hr⟩
theorem rread2 {y0 y1 : Nat} {y2 : Bool} {y3 : Int} {y4 n : Nat} {L : List (List FldD)} {er : Int} (s : List Nat) (hs : s.length = 128) (hb : Bytes s) (he : readSm s = (⟨y0, y1, y2, y3, y4, L⟩, er)) (hn : L.length = n) (w : World) :
    Calls Try.prog 25 #[.agg (cells s)] w fun e w' => Below w.heap.size w w' ∧ ∃ (z0 z1 : Nat) (z2 : Bool) (z3 : Int) (z4 k : Nat) (a : Option Addr) (c : Nat), e = .returned (.tuple #[.agg #[.int .u64 (z0 : Nat), .int .u64 (z1 : Nat), .bool z2, .int .i64 z3, .int .u32 (z4 : Nat), (.slice a k c)], .bool (decide (er = 0))]) ∧ (er = 0 → z0 = y0 ∧ z1 = y1 ∧ z2 = y2 ∧ z3 = y3 ∧ z4 = y4 ∧ k = n ∧ ReadsR w' a 4 (L.map rowV)) := by
  subst hn
  refine (rreadSum_is s hs hb w).mono ?_
  rintro e w' ⟨b, Dz, v, rfl, o, hy⟩
  obtain ⟨a', c', rfl, hr, _⟩ := owned_list o
  rw [he] at hy
  refine ⟨b, Dz.seq, Dz.first, Dz.commit, Dz.next, Dz.time, Dz.list.length, a', c', by rw [he]; rfl, fun h0 => ?_⟩
  have e1 := hy h0
  subst e1
  exact ⟨rfl, rfl, rfl, rfl, rfl, rfl, hr⟩
end Go.Proofs.Ytplkglepbedhoaa
