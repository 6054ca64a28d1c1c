/- What layer 8's laws share: paths compared, told, cut; the fixed fact. -/
import Derived.Test.YtpnafikmbbnecaaDoorRText
import Derived.Test.YtpnafikmbbnecaaDoorRParse
import Derived.Lib.QuietBelow
namespace Go.Proofs.YtpnafikmbbnecaaDoor
open Go.RowKit Go.Sort
set_option linter.unusedVariables false
set_option linter.unusedSimpArgs false
set_option maxRecDepth 100000

/-- A path as a value. -/
def PathV (w : World) (ab di : Bool) (Q : List Bs) (v : Value) : Prop := ∃ a cp, v = .agg #[.bool ab, .bool di, .slice a Q.length cp] ∧ ReadsV w a Q.length (strsV Q) ∧ Q.length ≤ cp ∧ cp ≤ maxLen
theorem PathV.below {w w' : World} {ab di : Bool} {Q : List Bs} {v : Value} (h : PathV w ab di Q v) (b : Below w.heap.size w w') : PathV w' ab di Q v := by
  obtain ⟨a, cp, h1, h2, h3⟩ := h
  exact ⟨a, cp, h1, h2.below b, h3⟩
/-- What a parse leaves, told apart. -/
theorem ParsePost.path {l : Bs} {w w' : World} {e : Ending} (h : ParsePost l w e w') : ∃ a cp, e = .returned (.tuple #[.agg #[.bool (pAbs l), .bool (pDir l), .slice a (pParts l).length cp], .int .i64 (parseE l)]) ∧ ReadsV w' a (pParts l).length (strsV (pParts l)) ∧ (pParts l).length ≤ cp ∧ cp ≤ maxLen ∧ Below w.heap.size w w' := by
  obtain ⟨v, he, ho, hb⟩ := h
  obtain ⟨a, cp, hv, hr, h1, h2⟩ := ho.reads
  rw [strsV_length] at hv hr h1
  exact ⟨a, cp, by rw [he, hv], hr, h1, h2, hb⟩
theorem strs_get {w : World} {a : Option Addr} {Q : List Bs} (h : ReadsV w a Q.length (strsV Q)) : ∀ k p, Q[k]? = some p → ∃ g off, a = some ⟨g, off, none⟩ ∧ g < w.heap.size ∧ w.cell? ⟨g, off + k, none⟩ = some (strV p) := fun k p hk => h.at (strsV_get hk)

set_option maxHeartbeats 3200000 in
/-- Two paths of the same parts. -/
theorem same_is (ab di : Bool) (a b : Option Addr) (cp cq : Nat) (Q : List Bs) (w : World) (hr : ReadsV w a Q.length (strsV Q)) (hs : ReadsV w b Q.length (strsV Q)) (hq : Q.length ≤ 1000) :
    Calls Tryd.prog 9 #[.agg #[.bool ab, .bool di, .slice a Q.length cp], .agg #[.bool ab, .bool di, .slice b Q.length cq]] w fun e w' => e = .returned (.bool true) ∧ Below w.heap.size w w' := by
  have HR := Lib.hid (strs_get hr)
  have HS := Lib.hid (strs_get hs)
  obtain ⟨n, hn⟩ : ∃ n, Q.length = n := ⟨_, rfl⟩
  have HN := Lib.hid hn
  rw [hn] at hq ⊢
  clear hr hs hn
  have hB : Hid (Below w.heap.size w ((w.alloc (.cells #[.bool ab, .bool di, .slice a n cp] 31)).alloc (.cells #[.bool ab, .bool di, .slice b n cq] 31))) := (below_box w _).alloc (by simp) _
  go_enter Tryd.func9, Tryd.ntmps9
  go_wp2
  go_loopw [5] (fun vi wr => ∃ i : Nat, i ≤ n ∧ vi = .int .i64 i ∧ Below ((w.alloc (.cells #[.bool ab, .bool di, .slice a n cp] 31)).alloc (.cells #[.bool ab, .bool di, .slice b n cq] 31)).heap.size ((w.alloc (.cells #[.bool ab, .bool di, .slice a n cp] 31)).alloc (.cells #[.bool ab, .bool di, .slice b n cq] 31)) wr) (fun vi _ => n - (intOf vi).toNat)
  case atStart => exact ⟨0, Nat.zero_le _, rfl, Below.refl _ _⟩
  case round =>
    obtain ⟨i, hi, rfl, hb⟩ := hrel
    have HB := Lib.hid hb
    have hk : Kept3 ((w.alloc (.cells #[.bool ab, .bool di, .slice a n cp] 31)).alloc (.cells #[.bool ab, .bool di, .slice b n cq] 31)) w.heap.size (.bool ab) (.bool di) (.slice a n cp) := (kept3_of (t := 31) (heap_alloc_new w _)).more _
    have hk2 : Kept3 ((w.alloc (.cells #[.bool ab, .bool di, .slice a n cp] 31)).alloc (.cells #[.bool ab, .bool di, .slice b n cq] 31)) (w.heap.size + 1) (.bool ab) (.bool di) (.slice b n cq) := by
      have h := kept3_of (t := 31) (heap_alloc_new (w.alloc (.cells #[.bool ab, .bool di, .slice a n cp] 31)) (.cells #[.bool ab, .bool di, .slice b n cq] 31))
      have e : (w.alloc (.cells #[.bool ab, .bool di, .slice a n cp] 31)).heap.size = w.heap.size + 1 := by simp
      rwa [e] at h
    obtain ⟨c0, c1, c2, _, _, _, z1⟩ := hk.below hb
    obtain ⟨d0, d1, d2, _, _, _, z2⟩ := hk2.below hb
    have z1' : w.heap.size < wr.heap.size := z1
    have z2' : w.heap.size + 1 < wr.heap.size := z2
    clear hb hk hk2 z1 z2
    by_cases hlt : i < n
    · obtain ⟨p, hp⟩ : ∃ p, Q[i]? = some p := ⟨_, List.getElem?_eq_getElem (by have := HN.out; omega)⟩
      obtain ⟨g, off, rfl, hg, hc⟩ := HR.out i p hp
      obtain ⟨g2, off2, rfl, hg2, hc2⟩ := HS.out i p hp
      obtain ⟨x, hx⟩ : ∃ x : ByteArray, x = ⟨p.toArray⟩ := ⟨_, rfl⟩
      have hbw := hB.out.trans (HB.out.mono hB.out.size)
      have e1 : wr.cell? ⟨g, off + i, none⟩ = some (.string x) := by rw [hbw.cell (p := ⟨g, off + i, none⟩) hg, hc, hx]; rfl
      have e2 : wr.cell? ⟨g2, off2 + i, none⟩ = some (.string x) := by rw [hbw.cell (p := ⟨g2, off2 + i, none⟩) hg2, hc2, hx]; rfl
      have hlt2 : (i : Int) < (n : Int) := by omega
      have hxx : (x.toList != x.toList) = false := by simp
      clear hp hx hc hc2 hbw
      go_wp2
      go_quiet (fail)
      go_wp2
      go_roundw
      case rel => exact ⟨i + 1, by omega, by go_num, ⟨HB.out.os, HB.out.tape, HB.out.output, HB.out.size, HB.out.block⟩⟩
      case measure => simp [intOf]; omega
    · have hge : ¬ ((i : Int) < (n : Int)) := by omega
      go_wp2
      go_ret
      exact ⟨rfl, hB.out.trans (HB.out.mono hB.out.size)⟩
set_option maxHeartbeats 1600000 in
theorem told_is (ab di : Bool) (a : Option Addr) (n cp : Nat) (w : World) :
    Calls Tryd.prog 8 #[.agg #[.bool ab, .bool di, .slice a n cp]] w fun e w' => e = .returned (.agg #[.bool ab, .bool di, .slice a n cp]) ∧ Below w.heap.size w w' := by
  go_enter Tryd.func8, Tryd.ntmps8
  go_wp2
  refine bodyPost_ret (v := .agg #[.bool ab, .bool di, .slice a n cp]) (by simp [results, Tryd.results8, go_sem]) rfl ⟨rfl, ?_⟩
  exact (below_box w _).alloc (by simp) _
/-- At most 300 bytes. -/
def shortS (s : ByteArray) : ByteArray := if 300 < s.size then s.extract 0 300 else s
theorem shortS_le (s : ByteArray) : (shortS s).size ≤ 300 := by
  unfold shortS
  split
  · rw [ByteArray.size_extract]; omega
  · omega
theorem short_is (s : ByteArray) (w : World) (hs : s.size ≤ maxLen) : Calls Tryd.prog 6 #[.string s] w fun e w' => e = .returned (.string (shortS s)) ∧ w = w' := by
  by_cases h : 300 < s.size
  · have E : Hid (shortS s = s.extract 0 300) := if_pos h
    have h2 : (300 : Int) < (s.size : Int) := by omega
    go_enter Tryd.func6, Tryd.ntmps6
    go_wp2
    go_ret
    exact ⟨by rw [E.out]; rfl, rfl⟩
  · have E : Hid (shortS s = s) := if_neg h
    have h2 : ¬ (300 : Int) < (s.size : Int) := by omega
    go_enter Tryd.func6, Tryd.ntmps6
    go_wp2
    go_ret
    exact ⟨by rw [E.out]; rfl, rfl⟩
end Go.Proofs.YtpnafikmbbnecaaDoor
