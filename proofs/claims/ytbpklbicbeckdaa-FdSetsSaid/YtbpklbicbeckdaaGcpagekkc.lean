/- A disk's queue, told by its walk. -/
import Derived.Test.YtbpklbicbeckdaaGjoamijna
namespace Go.Proofs.Ytbpklbicbeckdaa
open Go.RowKit Go.Sort
set_option linter.unusedVariables false
set_option maxRecDepth 100000

def queueV (l : List (Nat × List Nat)) (k : Nat) : Array Value := ((l.take k).map (fun p => Value.int .i64 p.1) ++ List.replicate (l.length - k) (Value.int .i64 0)).toArray
theorem queueV_size {l : List (Nat × List Nat)} {k : Nat} (hk : k ≤ l.length) : (queueV l k).size = l.length := by simp [queueV]; omega
theorem queueV_step {l : List (Nat × List Nat)} {k : Nat} {p : Nat × List Nat} (hp : l[k]? = some p) : (queueV l k).setIfInBounds k (.int .i64 p.1) = queueV l (k + 1) := by
  have hk : k < l.length := (List.getElem?_eq_some_iff.1 hp).1
  have hlen : ((l.take k).map (fun p => Value.int .i64 p.1)).length = k := by simp; omega
  unfold queueV
  apply Array.ext'
  rw [Array.toList_setIfInBounds]
  simp only
  rw [List.set_append_right _ _ (by omega), hlen, Nat.sub_self, List.take_add_one, hp]
  rw [show l.length - k = (l.length - (k + 1)) + 1 by omega, List.replicate_succ]
  simp
theorem info_int : (Try.prog.info? 3).map (fun i => (i.zero, i.size, i.bytes)) = some (some (.int .i64 0), 1, 8) := by kernel_rfl

set_option maxHeartbeats 1600000 in
theorem dqueue_is {B : Nat} {w : World} {g gs : Nat} {cv : Value} {D : DiskD} (h : IsDisk B w g gs cv D) :
    Calls Try.prog 16 #[.pointer (some ⟨g, 0, none⟩)] w fun e w' => ∃ gq, e = .returned (.slice (some ⟨gq, 0, none⟩) D.cache.length D.cache.length) ∧ w.heap.size ≤ gq ∧ w'.heap[gq]? = some (.cells (queueV D.cache D.cache.length) 3 (0, 0)) ∧ Below w.heap.size w w' := by
  have H := Lib.hid h
  have hcl : D.cache.length ≤ 1000000 := h.2.2.2.1.2.2.2.2.1
  obtain ⟨c0, c1, c2, c3, c4, c5⟩ := head_facts h.1
  have hgl : g < w.heap.size := (Array.getElem?_eq_some_iff.1 h.1).1
  obtain ⟨m, hm⟩ : ∃ m, D.cache.length = m := ⟨_, rfl⟩
  obtain ⟨ca, cc, hcv⟩ : ∃ ca cc, cv = .slice ca m cc := by
    obtain ⟨_, _, ⟨_, q⟩, _⟩ := H.out
    rw [hm] at q
    rcases q with ⟨rfl, q⟩ | ⟨gc, cap, cur, rfl, _⟩
    · exact ⟨none, 0, by rw [q]⟩
    · exact ⟨_, _, rfl⟩
  subst hcv
  obtain ⟨i0, hi, hz0, hz1, hz2⟩ := info_parts info_int
  have hmk := fun W => run_make_rowN (P := Try.prog) 48 3 i0 (.int .i64 0) Try.underlying48 hi hz0 .i64 .i64 m m (Nat.le_refl _) (by rw [hz2]; omega) (by omega) W
  have hq0 : madeCells #[.int .i64 0] (m * 1) = queueV D.cache 0 := by
    apply Array.ext'
    rw [toList_madeCells_one, Nat.mul_one]
    simp [queueV, hm]
  simp only [hz1, Value.cells, hq0] at hmk
  have HM := Lib.hid hm
  rw [hm] at hcl
  have hg0 := heap_alloc_new w (.cells (queueV D.cache 0) 3)
  have hb0 := below_box w (.cells (queueV D.cache 0) 3)
  rw [hm]
  have HG0 := Lib.hid hg0
  clear h hm c0 c1 c2 c3 c5 hi hz0 hz1 hz2 hq0 hg0
  go_enter Try.func16, Try.ntmps16
  go_wp2_with fail
  go_loopw [4, 16] (fun _ i wr => ∃ k : Nat, k ≤ m ∧ i = .int .i64 k ∧ wr.heap[w.heap.size]? = some (.cells (queueV D.cache k) 3 (0, 0)) ∧ Below w.heap.size w wr) (fun _ i _ => m - (intOf i).toNat)
  case atStart => exact ⟨0, by omega, rfl, HG0.out, hb0⟩
  case round =>
    obtain ⟨k, hk, rfl, hg, hb⟩ := hrel
    by_cases hlt : k < m
    · obtain ⟨p, hp⟩ : ∃ p, D.cache[k]? = some p := ⟨_, List.getElem?_eq_getElem (by have := HM.out; omega)⟩
      obtain ⟨gc, cap, hcv, hlc, hcm, hBc, hgcl, _, _, hcell, _⟩ := cache_at H.out hp
      injection hcv with q1 q2 q3
      subst q1 q3
      clear q2
      have d4 := (hb.cell (p := ⟨g, 4, none⟩) hgl).trans c4
      have e0 := (hb.cell (p := ⟨gc, k * 129, none⟩) hgcl).trans hcell
      have hst := queueV_step hp
      have hi : (0 : Int) ≤ (k : Int) ∧ (k : Int) < (m : Int) := by omega
      have hu : ∃ u, wr.cell? ⟨w.heap.size, k, none⟩ = some u := by
        have hs := queueV_size (l := D.cache) (k := k) (by have := HM.out; omega)
        have := HM.out
        refine ⟨(queueV D.cache k)[k]'(by omega), ?_⟩
        unfold World.cell?
        rw [hg]
        simp
      obtain ⟨u, hu⟩ := hu
      have hfz := frozen_of_row wr w.heap.size k _ _ hg
      have hg2 : (wr.setCell ⟨w.heap.size, k, none⟩ (.int .i64 p.1)).heap[w.heap.size]? = some (.cells (queueV D.cache (k + 1)) 3 (0, 0)) := by
        rw [heap_setCell_same _ _ _ _ _ _ hg, hst]
      have hb2 := hb.setCell (p := ⟨w.heap.size, k, none⟩) (Nat.le_refl _) (.int .i64 p.1)
      have HG2 := Lib.hid hg2
      clear hp hg hst hb hcell hg2
      go_wp2
      go_roundw
      case rel => exact ⟨k + 1, by omega, by go_num, HG2.out, hb2⟩
      case measure => simp [intOf]; omega
    · have hkm : k = D.cache.length := by have := HM.out; omega
      rw [hkm] at hg
      have hgf : wr.heap[w.heap.size]? = some (.cells (queueV D.cache m) 3 (0, 0)) := by rw [← HM.out]; exact hg
      have HGF := Lib.hid hgf
      clear hg hkm hgf
      go_wp2
      go_ret
      exact ⟨_, rfl, Nat.le_refl _, HGF.out, hb⟩
end Go.Proofs.Ytbpklbicbeckdaa
