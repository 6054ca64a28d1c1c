/- The law's own helpers on parts: few, by its walk. -/
import Derived.Test.YtdcnmfkhalfjcaaParts
namespace Go.Proofs.Ytdcnmfkhalfjcaa
open Go.RowKit
set_option linter.unusedVariables false

def cutP (p : PartD) : PartD := if 200 < p.len then { p with len := 200, b := p.b.take 200 } else p
theorem cutP_ok {w : World} {p : PartD} (h : PartOk w p) : PartOk w (cutP p) := by
  unfold cutP
  split
  · obtain ⟨h1, h2, h3, h4, h5⟩ := h
    exact ⟨h1, h2, h3.take 200 (by omega), (show 200 ≤ p.cap by omega), h5⟩
  · exact h
theorem cutP_len (p : PartD) : (cutP p).len ≤ 200 := by
  unfold cutP
  split
  · exact Nat.le_refl _
  · omega
def fewL (ps : List PartD) : List PartD := (ps.take 40).map cutP

theorem few_step {ps : List PartD} {k : Nat} {p : PartD} (h : ps[k]? = some p) : (ps.take k).map cutP ++ [cutP p] = (ps.take (k + 1)).map cutP := by
  rw [List.take_add_one, h]
  simp

/-- A part in a block of its own. -/
theorem new_part (w : World) (p : PartD) : ∀ j u, p.vals[j]? = some u → (w.alloc (.cells #[.int .i64 p.q, .int .u64 (p.n : Int), .bool p.raw, .slice p.a p.len p.cap] 50)).cell? ⟨w.heap.size, 0 + j, none⟩ = some u := fun j u h => by
  rw [cell_of_row _ _ _ _ _ _ (heap_alloc_new w _), Nat.zero_add]
  simpa [PartD.vals] using h

/-- What the walk is told of one part. -/
theorem Parts.at {w : World} {a : Option Addr} {len : Nat} {ps : List PartD} (h : Parts w a len ps) {k : Nat} (hk : k < len) : ∃ p b off, ps[k]? = some p ∧ a = some ⟨b, off, none⟩ ∧ b < w.heap.size ∧ PartAt w b (off + k * 4) p := by
  obtain ⟨h1, h2⟩ := h
  have hp : ps[k]? = some (ps[k]'(by omega)) := List.getElem?_eq_getElem _
  rcases h2 with rfl | ⟨b, off, rfl, hb, hc⟩
  · simp at h1; omega
  · exact ⟨_, b, off, hp, rfl, hb, hc k _ hp⟩

set_option maxHeartbeats 1600000 in
set_option maxRecDepth 100000 in
theorem few_any (a : Option Addr) (len cap : Nat) (ps : List PartD) (w : World) (hr : Parts w a len ps) (hl : len ≤ cap) (hc : cap ≤ maxLen) :
    Calls Try.prog 20 #[.slice a len cap] w fun e w' => ∃ v, e = .returned v ∧ OwnsP w.heap.size w' v (fewL ps) ∧ Below w.heap.size w w' := by
  unfold maxLen at hc
  go_enter Try.func20, Try.ntmps20
  go_wp2
  go_loopw [3, 4, 5] (fun v i _ wr => ∃ k : Nat, k ≤ len ∧ k ≤ 40 ∧ i = .int .i64 k ∧ OwnsP w.heap.size wr v ((ps.take k).map cutP) ∧ Below w.heap.size w wr) (fun _ i _ _ => 40 - (intOf i).toNat)
  case atStart => exact ⟨0, by omega, by omega, rfl, ownsP_nil _ _, Below.refl _ _⟩
  case round =>
    obtain ⟨k, hk, hk4, rfl, ho, hb⟩ := hrel
    by_cases hlt : k < len ∧ k < 40
    · obtain ⟨hlt, h40⟩ := hlt
      obtain ⟨p, b, off, hpk, rfl, hbl, hpa⟩ := hr.at hlt
      obtain ⟨hpo, c0, c1, c2, c3⟩ := hpa.below hbl hb
      have hpl : p.len ≤ 9223372036854775807 := by have := hpo.2.2.2; unfold maxLen at this; omega
      have HP := Lib.hid hpo
      have HK := Lib.hid (few_step hpk)
      have hpc : p.len ≤ p.cap := hpo.2.2.2.1
      have hbs := hb.size
      have hps : ((ps.take k).map cutP).length ≤ 40 := by simp; omega
      clear hpa hpk hpo
      by_cases hcut : 200 < p.len
      · have e : cutP p = { p with len := 200, b := p.b.take 200 } := if_pos hcut
        rw [e] at HK
        obtain ⟨q, n, r, pa, pl, pc, pb⟩ := p
        clear e
        simp only at *
        have ho2 := (ho.alloc (.cells #[.int .i64 q, .int .u64 n, .bool r, .slice pa 200 pc] 50)).alloc (.cells #[.int .i64 q, .int .u64 n, .bool r, .slice pa 200 pc] 50)
        have hb2 := (hb.alloc hbs (.cells #[.int .i64 q, .int .u64 n, .bool r, .slice pa 200 pc] 50)).alloc (by simp; omega) (.cells #[.int .i64 q, .int .u64 n, .bool r, .slice pa 200 pc] 50)
        have hnew := new_part (wr.alloc (.cells #[.int .i64 q, .int .u64 n, .bool r, .slice pa 200 pc] 50)) ⟨q, n, r, pa, 200, pc, pb.take 200⟩
        rw [show (wr.alloc (.cells #[.int .i64 q, .int .u64 n, .bool r, .slice pa 200 pc] 50)).heap.size = wr.heap.size + 1 by simp] at hnew
        have HN := Lib.hid hnew
        have hs2 := hb2.size
        clear hnew hb
        go_wp2_with (at_builtin; refine wpList_append_part rfl _ _ rfl w.heap.size u3 ((ps.take k).map cutP) rfl ho2 (wr.heap.size + 1) 1 rfl ⟨q, n, r, pa, 200, pc, pb.take 200⟩ HN.out (by omega) (by omega) ?_; intro v' w' h1 h2)
        rw [HK.out] at h1
        have hb' := hb2.grown h2 (by omega) (fun j hj => OwnsP.lt ho2 j hj)
        clear h2 ho2 hb2 HN HK
        go_roundw
        case rel => exact ⟨k + 1, by omega, by omega, by go_num, h1, hb'⟩
        case measure => simp [intOf]; omega
      · have e : cutP p = p := if_neg hcut
        rw [e] at HK
        obtain ⟨q, n, r, pa, pl, pc, pb⟩ := p
        clear e
        simp only at *
        have ho2 := (ho.alloc (.cells #[.int .i64 q, .int .u64 n, .bool r, .slice pa pl pc] 50)).alloc (.cells #[.int .i64 q, .int .u64 n, .bool r, .slice pa pl pc] 50)
        have hb2 := (hb.alloc hbs (.cells #[.int .i64 q, .int .u64 n, .bool r, .slice pa pl pc] 50)).alloc (by simp; omega) (.cells #[.int .i64 q, .int .u64 n, .bool r, .slice pa pl pc] 50)
        have hnew := new_part (wr.alloc (.cells #[.int .i64 q, .int .u64 n, .bool r, .slice pa pl pc] 50)) ⟨q, n, r, pa, pl, pc, pb⟩
        rw [show (wr.alloc (.cells #[.int .i64 q, .int .u64 n, .bool r, .slice pa pl pc] 50)).heap.size = wr.heap.size + 1 by simp] at hnew
        have HN := Lib.hid hnew
        have hs2 := hb2.size
        clear hnew hb
        go_wp2_with (at_builtin; refine wpList_append_part rfl _ _ rfl w.heap.size u3 ((ps.take k).map cutP) rfl ho2 (wr.heap.size + 1) 1 rfl ⟨q, n, r, pa, pl, pc, pb⟩ HN.out (by omega) (by omega) ?_; intro v' w' h1 h2)
        rw [HK.out] at h1
        have hb' := hb2.grown h2 (by omega) (fun j hj => OwnsP.lt ho2 j hj)
        clear h2 ho2 hb2 HN HK
        go_roundw
        case rel => exact ⟨k + 1, by omega, by omega, by go_num, h1, hb'⟩
        case measure => simp [intOf]; omega
    · have hfin : (ps.take k).map cutP = fewL ps := by
        unfold fewL
        by_cases h1 : k = len
        · rw [List.take_of_length_le (by have := hr.1; omega), List.take_of_length_le (by have := hr.1; omega)]
        · rw [show k = 40 by omega]
      rw [hfin] at ho
      by_cases h1 : k < len
      · have h2 : ¬ k < 40 := fun h => hlt ⟨h1, h⟩
        clear hlt hfin
        go_wp2
        go_ret
        exact ⟨_, rfl, ho, hb⟩
      · clear hlt hfin
        go_wp2
        go_ret
        exact ⟨_, rfl, ho, hb⟩
end Go.Proofs.Ytdcnmfkhalfjcaa
