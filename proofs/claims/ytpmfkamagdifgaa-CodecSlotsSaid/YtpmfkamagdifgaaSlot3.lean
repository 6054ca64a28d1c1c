/- The laying of a list of Slots (part.Rest's closure). -/
import Derived.Test.YtpmfkamagdifgaaSlot2
import Derived.Deep.RegionHeld3
namespace Go.Proofs.Ytpmfkamagdifgaa
open Go.RowKit Go.Sort
set_option linter.unusedVariables false
set_option linter.unusedSimpArgs false
set_option maxRecDepth 100000

set_option maxHeartbeats 3200000 in
theorem restSlot_is {w : World} {pv : Value} {S : PS} (hport : IsPort w pv S) (L : List (List FldD)) (hL : ∀ x ∈ L, IsFSlot x) (a : Option Addr) (cap gx gb : Nat) (lt tb : TypeId) (hlt : lt ≠ 29) (nx : w.heap[gx]? = some (.cells #[.slice a L.length cap] lt (0, 0))) (hax : Away w pv S gx)
    (nb : w.heap[gb]? = some (.cells #[.func (.func 84) #[] #[]] tb (0, 0))) (hab : Apart w pv S gb) (hxb : gx ≠ gb)
    (hr : ReadsR w a 4 (L.map rowV)) (hap : L ≠ [] → ∀ b off, a = some ⟨b, off, none⟩ → b < w.heap.size ∧ Apart w pv S b)
    (K : Nat) (hK : K ≤ 2000) (hLl : L.length ≤ 2000) (hfit : ∀ i, i < K → (runS zeroSlot L S i).fits 11) (hM : ∀ i, i ≤ K → decide (i < L.length ∨ 0 < leftS (runS zeroSlot L S i)) = decide (i < K)) :
    Calls Try.prog 175 #[pv, .pointer (some ⟨gx, 0, none⟩), .pointer (some ⟨gb, 0, none⟩)] w (RestPost 29 lt 4 w pv S (runS zeroSlot L S K) gx (runD zeroSlot L S K)) := by
  obtain ⟨ti, vi, rfl⟩ := port_iface hport
  have q1 := below_box w (.cells #[(.iface ti vi)] 293)
  have m1 := heap_alloc_new w (.cells #[(.iface ti vi)] 293)
  obtain ⟨w1, hw1⟩ : ∃ x, w.alloc (.cells #[(.iface ti vi)] 293) = x := ⟨_, rfl⟩
  have hs1 : w1.heap.size = w.heap.size + 1 := by rw [← hw1]; simp
  rw [hw1] at q1 m1
  have q2 := below_box w1 (.cells #[.pointer (some ⟨gx, 0, none⟩)] 294)
  have m2 := heap_alloc_new w1 (.cells #[.pointer (some ⟨gx, 0, none⟩)] 294)
  obtain ⟨w2, hw2⟩ : ∃ x, w1.alloc (.cells #[.pointer (some ⟨gx, 0, none⟩)] 294) = x := ⟨_, rfl⟩
  have hs2 : w2.heap.size = w.heap.size + 2 := by rw [← hw2]; simp [hs1]
  rw [hw2, hs1] at q2 m2
  obtain ⟨w3, hw3⟩ : ∃ x, w2.drew = x := ⟨_, rfl⟩
  have hs3 : w3.heap.size = w.heap.size + 2 := by rw [← hw3]; exact hs2
  have q3 : Below (w.heap.size + 1) w1 w3 := by rw [← hw3]; exact q2.drew
  have m3 : w3.heap[w.heap.size + 1]? = some (.cells #[.pointer (some ⟨gx, 0, none⟩)] 294 (0, 0)) := by rw [← hw3]; exact m2
  have hq := below_next q1 (hs1 ▸ q3)
  have hgx : gx < w.heap.size := (Array.getElem?_eq_some_iff.1 nx).1
  have hgb : gb < w.heap.size := (Array.getElem?_eq_some_iff.1 nb).1
  have m12 := (q3.block w.heap.size (by omega)).trans m1
  have nx2 := (hq.block gx hgx).trans nx
  have nb2 := (hq.block gb hgb).trans nb
  obtain ⟨p1, p2, p3⟩ := port_kept hport (below_grown0 hq) (fun k hk => by cases hk)
  have hax2 := (p2 gx).1 hax
  have hab2 := (p3 gb).1 hab
  have hr2 := hr.below hq
  have hap2 : L ≠ [] → ∀ b off, a = some ⟨b, off, none⟩ → b < w3.heap.size ∧ Apart w3 (.iface ti vi) S b := fun h b off e => ⟨by have := (hap h b off e).1; omega, (p3 b).1 (hap h b off e).2⟩
  have aP : Apart w3 (.iface ti vi) S w.heap.size := (p3 _).1 (away_ne hport (Nat.le_refl _))
  have aL : Apart w3 (.iface ti vi) S (w.heap.size + 1) := (p3 _).1 (away_ne hport (by omega))
  have keep : ∀ (W : World) (v : Value) (S' : PS) (dn : List (List FldD)), EachAt 29 4 w3 (.iface ti vi) S W S' v dn → W.heap[gx]? = some (.cells #[.slice a L.length cap] lt (0, 0)) ∧ W.heap[gb]? = some (.cells #[.func (.func 84) #[] #[]] tb (0, 0)) ∧ W.heap[w.heap.size]? = some (.cells #[(.iface ti vi)] 293 (0, 0)) ∧ W.heap[w.heap.size + 1]? = some (.cells #[.pointer (some ⟨gx, 0, none⟩)] 294 (0, 0)) := fun W v S' dn h =>
    ⟨(h.went.block gx (by omega) hax2.apart (by omega)).trans nx2, (h.went.block gb (by omega) hab2 (by omega)).trans nb2, (h.went.block w.heap.size (by omega) aP (by omega)).trans m12, (h.went.block (w.heap.size + 1) (by omega) aL (by omega)).trans m3⟩
  have hmore : ∀ (i : Nat) (W : World) (v : Value), i ≤ K → EachAt 29 4 w3 (.iface ti vi) S W (runS zeroSlot L S i) v (runD zeroSlot L S i) → Calls Try.prog 177 (#[.int .i64 (i : Int)] ++ #[.pointer (some ⟨w.heap.size + 1, 0, none⟩), .pointer (some ⟨w.heap.size, 0, none⟩)]) W fun e w' => e = .returned (.bool (decide (i < K))) ∧ W = w' := fun i W v hi h => by
    obtain ⟨k1, k2, k3, k4⟩ := keep W v _ _ h
    have := moreSlot_is (n := L.length) (cap := cap) (a := a) h.went.port ((cell_of_row k4 0).trans rfl) ((cell_of_row k1 0).trans rfl) ((cell_of_row k3 0).trans rfl) i
    rw [hM i hi] at this
    exact this
  have HCALL := Lib.hid (eachSlot_is L hL a cap hr2 hap2 p1 K hK hLl hfit 177 _ enters_moreSlot hmore)
  have HKEEP := Lib.hid keep
  have HFIN := Lib.hid (fun (W : World) (v : Value) (S' : PS) (dn : List (List FldD)) (h : EachAt 29 4 w3 (.iface ti vi) S W S' v dn) => (show RestPost 29 lt 4 w (.iface ti vi) S S' gx dn (.returned (.tuple #[])) (W.setCell ⟨gx, 0, none⟩ v) from rest_fin hport hq hlt hgx hax nx h))
  have c0 : w3.cell? ⟨w.heap.size + 1, 0, none⟩ = some (.pointer (some ⟨gx, 0, none⟩)) := (cell_of_row m3 0).trans rfl
  have c1 : w3.cell? ⟨w.heap.size, 0, none⟩ = some (.iface ti vi) := (cell_of_row m12 0).trans rfl
  have c2 : w3.cell? ⟨gx, 0, none⟩ = some (.slice a L.length cap) := (cell_of_row nx2 0).trans rfl
  have c3 : w3.cell? ⟨gb, 0, none⟩ = some (.func (.func 84) #[] #[]) := (cell_of_row nb2 0).trans rfl
  clear q1 m1 q2 m2 q3 m3 hq m12 nx2 nb2 p1 p2 p3 hax2 hab2 hr2 hap2 aP aL keep hmore nx nb hr hap hax hab hport hL hfit hM hs2 hs3
  go_enter Try.func175, Try.ntmps175
  go_wp2_with fail
  subst hw3
  refine wp_region_held_drew (S := fun W => W.cell? ⟨w.heap.size + 1, 0, none⟩ = some (.pointer (some ⟨gx, 0, none⟩)) ∧ W.cell? ⟨w.heap.size, 0, none⟩ = some (.iface ti vi) ∧ W.cell? ⟨gb, 0, none⟩ = some (.func (.func 84) #[] #[])) (by kernel_rfl) ⟨c0, c1, c3⟩ (fun hHeld => ?_)
  refine wpAnyH_take (i := 0) (v := .pointer (some ⟨gx, 0, none⟩)) rfl (by kernel_rfl) (by kernel_rfl) (by kernel_rfl) (fun _ _ _ h => h) (Or.inl ⟨by rfl, by intro W hSw; (try dsimp only at hSw); go_simp⟩) (by assumption) ?_
  try simp only [Act.put, List.setIfInBounds_toArray, List.set_cons_zero, List.set_cons_succ]
  refine wpAnyH_take (i := 1) (v := .iface ti vi) rfl (by kernel_rfl) (by kernel_rfl) (by kernel_rfl) (fun _ _ _ h => h) (Or.inl ⟨by rfl, by intro W hSw; (try dsimp only at hSw); go_simp⟩) (by assumption) ?_
  try simp only [Act.put, List.setIfInBounds_toArray, List.set_cons_zero, List.set_cons_succ]
  refine wpAnyH_take (i := 2) (v := .pointer (some ⟨gx, 0, none⟩)) rfl (by kernel_rfl) (by kernel_rfl) (by kernel_rfl) (fun _ _ _ h => h) (Or.inl ⟨by rfl, by intro W hSw; (try dsimp only at hSw); go_simp⟩) (by assumption) ?_
  try simp only [Act.put, List.setIfInBounds_toArray, List.set_cons_zero, List.set_cons_succ]
  refine wpAnyH_take (i := 3) (v := .pointer (some ⟨gx, 0, none⟩)) rfl (by kernel_rfl) (by kernel_rfl) (by kernel_rfl) (fun _ _ _ h => h) (Or.inl ⟨by rfl, by intro W hSw; (try dsimp only at hSw); go_simp⟩) (by assumption) ?_
  try simp only [Act.put, List.setIfInBounds_toArray, List.set_cons_zero, List.set_cons_succ]
  refine wpAnyH_take (i := 5) (v := .func (.func 177) #[] #[.pointer (some ⟨w.heap.size + 1, 0, none⟩), .pointer (some ⟨w.heap.size, 0, none⟩)]) rfl (by kernel_rfl) (by kernel_rfl) (by kernel_rfl) (fun _ _ _ h => h) (Or.inl ⟨by rfl, by intro W hSw; (try dsimp only at hSw); go_simp⟩) (by assumption) ?_
  try simp only [Act.put, List.setIfInBounds_toArray, List.set_cons_zero, List.set_cons_succ]
  refine wpAnyH_take (i := 6) (v := .func (.func 84) #[] #[]) rfl (by kernel_rfl) (by kernel_rfl) (by kernel_rfl) (fun _ _ _ h => h) (Or.inl ⟨by rfl, by intro W hSw; (try dsimp only at hSw); go_simp⟩) (by assumption) ?_
  try simp only [Act.put, List.setIfInBounds_toArray, List.set_cons_zero, List.set_cons_succ]
  refine wpAnyH_ready (rs := [4]) (by kernel_rfl) (by simp) ?_
  refine AllReadyH.cons rfl (fun K' hK' => ?_) AllReadyH.nil
  go_simp
  refine hK'.out _ _ hHeld (fun hHeld => ?_)
  clear hK' K'
  try simp only [Act.put, List.setIfInBounds_toArray, List.set_cons_zero, List.set_cons_succ]
  refine wpAnyH_ready (rs := [7]) (by kernel_rfl) (by simp) ?_
  refine AllReadyH.cons rfl (fun K' hK' => ?_) AllReadyH.nil
  go_simp
  refine HCALL.out.mono ?_
  rintro e w5 ⟨v5, rfl, h5⟩
  obtain ⟨a5, n5, q5, rfl⟩ := each_shape h5
  obtain ⟨k1, k2, k3, k4⟩ := HKEEP.out w5 _ _ _ h5
  have c5 : w5.cell? ⟨gx, 0, none⟩ = some (.slice a L.length cap) := (cell_of_row k1 0).trans rfl
  have f5 := frozen_of_row w5 gx 0 _ _ k1
  have SA : w5.cell? ⟨w.heap.size + 1, 0, none⟩ = some (.pointer (some ⟨gx, 0, none⟩)) ∧ w5.cell? ⟨w.heap.size, 0, none⟩ = some (.iface ti vi) ∧ w5.cell? ⟨gb, 0, none⟩ = some (.func (.func 84) #[] #[]) := ⟨(cell_of_row k4 0).trans rfl, (cell_of_row k3 0).trans rfl, (cell_of_row k2 0).trans rfl⟩
  have SB : (w5.setCell ⟨gx, 0, none⟩ (.slice a5 n5 q5)).cell? ⟨w.heap.size + 1, 0, none⟩ = some (.pointer (some ⟨gx, 0, none⟩)) ∧ (w5.setCell ⟨gx, 0, none⟩ (.slice a5 n5 q5)).cell? ⟨w.heap.size, 0, none⟩ = some (.iface ti vi) ∧ (w5.setCell ⟨gx, 0, none⟩ (.slice a5 n5 q5)).cell? ⟨gb, 0, none⟩ = some (.func (.func 84) #[] #[]) := ⟨(World.cell?_of_block (a := ⟨w.heap.size + 1, 0, none⟩) (Below.heap_setCell _ _ _ _ (by show w.heap.size + 1 ≠ gx; omega))).trans SA.1, (World.cell?_of_block (a := ⟨w.heap.size, 0, none⟩) (Below.heap_setCell _ _ _ _ (by show w.heap.size ≠ gx; omega))).trans SA.2.1, (World.cell?_of_block (a := ⟨gb, 0, none⟩) (Below.heap_setCell _ _ _ _ (Ne.symm hxb))).trans SA.2.2⟩
  have HFF := HFIN.out _ _ _ _ h5
  clear h5 k1 k2 k3 k4 hHeld
  refine hK'.out _ _ SA (fun hHeld => ?_)
  clear hK' K'
  try simp only [Act.put, List.setIfInBounds_toArray, List.set_cons_zero, List.set_cons_succ]
  refine wpAnyH_take (i := 8) (v := .pointer (some ⟨gx, 0, none⟩)) rfl (by kernel_rfl) (by kernel_rfl) (by kernel_rfl) (fun _ _ _ h => h) (Or.inl ⟨by rfl, by intro W hSw; (try dsimp only at hSw); go_simp⟩) (by assumption) ?_
  try simp only [Act.put, List.setIfInBounds_toArray, List.set_cons_zero, List.set_cons_succ]
  refine wpAnyH_ready (rs := [9]) (by kernel_rfl) (by simp) ?_
  refine AllReadyH.cons rfl (fun K' hK' => ?_) AllReadyH.nil
  go_simp
  refine hK'.out _ _ SB (fun hHeld => ?_)
  clear hK' K'
  refine wpAnyH_done (by kernel_rfl) ?_ _
  go_end0
  exact HFF
end Go.Proofs.Ytpmfkamagdifgaa
