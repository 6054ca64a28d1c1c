/- Whether there is more; the laying of a list of Uses (part.Rest). The laying of a list of Uses (part.Rest's closure). Lists of Uses written to bytes and read of bytes (part.Write, part.Read). At most so many Uses, each of which may be (codec.upTo); a sealed sector of them (codec.write). A sealed sector of Uses read (codec.read); codec's own WriteUses and ReadUses. Codec's own ReadUses. -/
import Derived.Test.YtgakidimipipeaaGreatGmdeekokd
import Derived.Test.YtgakidimipipeaaGreatGolgphjcg
import Derived.Deep.RegionWith
import Derived.Deep.RegionHeld3
import Derived.Test.YtgakidimipipeaaGreatGkcidpoml
import Derived.Test.YtgakidimipipeaaGreatGegjignoa
namespace Go.Proofs.YtgakidimipipeaaGreat
open Go.RowKit Go.Sort
set_option linter.unusedVariables false
set_option linter.unusedSimpArgs false
set_option maxRecDepth 100000

theorem enters_moreUse (args : Array Value) (w : World) : (callFunc 97 args).run Tryz.prog w = .ok (.enter 97 args) w := enters_of Tryz.func97 (by kernel_rfl) rfl args w
theorem moreUse_is {w : World} {pv : Value} {S : PS} (h : IsPort w pv S) {gl gx gp n cap : Nat} {a : Option Addr} (cl : w.cell? ⟨gl, 0, none⟩ = some (.pointer (some ⟨gx, 0, none⟩))) (cx : w.cell? ⟨gx, 0, none⟩ = some (.slice a n cap)) (cp : w.cell? ⟨gp, 0, none⟩ = some pv) (i : Nat) :
    Calls Tryz.prog 97 #[.int .i64 (i : Int), .pointer (some ⟨gl, 0, none⟩), .pointer (some ⟨gp, 0, none⟩)] w fun e w' => e = .returned (.bool (decide (i < n ∨ 0 < leftS S))) ∧ w = w' := by
  by_cases hi : i < n
  · have h1 : (i : Int) < (n : Int) := by omega
    have hd : decide (i < n ∨ 0 < leftS S) = true := decide_eq_true (.inl hi)
    rw [hd]
    clear h hd hi
    go_enter Tryz.func97, Tryz.ntmps97
    go_wp2
    go_ret
    exact ⟨rfl, rfl⟩
  · have h1 : decide (i < n) = false := decide_eq_false hi
    have hd : decide (i < n ∨ 0 < leftS S) = decide (0 < leftS S) := by simp [hi]
    rw [hd]
    have HL := Lib.hid (left_is h)
    cases S with
    | wr l f =>
      obtain ⟨g, v, rfl, hw⟩ := h
      have hna := fun n hn w => naL_wr n g w hn
      have hmt := fun n hn w => mtL_wr n g w hn
      clear hd hi hw
      go_enter Tryz.func97, Tryz.ntmps97
      go_wp2_with (go_at_call 141; refine HL.out.mono ?_; rintro e w1 ⟨rfl, rfl⟩)
      go_ret
      exact ⟨rfl, rfl⟩
    | rd b =>
      obtain ⟨g, a2, cap2, rfl, hw⟩ := h
      have hna := fun n hn w => naL_rd n g w hn
      have hmt := fun n hn w => mtL_rd n g w hn
      obtain ⟨m, hm⟩ : ∃ m, leftS (.rd b) = m := ⟨_, rfl⟩
      rw [hm] at HL ⊢
      clear hd hi hw hm
      go_enter Tryz.func97, Tryz.ntmps97
      go_wp2_with (go_at_call 143; refine HL.out.mono ?_; rintro e w1 ⟨rfl, rfl⟩)
      go_ret
      exact ⟨rfl, rfl⟩
end Go.Proofs.YtgakidimipipeaaGreat

namespace Go.Proofs.YtgakidimipipeaaGreat
open Go.RowKit Go.Sort
set_option linter.unusedVariables false
set_option linter.unusedSimpArgs false
set_option maxRecDepth 100000

set_option maxHeartbeats 3200000 in
theorem restUse_is {w : World} {pv : Value} {S : PS} (hport : IsPort w pv S) (L : List (List FldD)) (hL : ∀ x ∈ L, IsFUse x) (a : Option Addr) (cap gx gb : Nat) (lt tb : TypeId) (hlt : lt ≠ 127) (nx : w.heap[gx]? = some (.cells #[.slice a L.length cap] lt (0, 0))) (hax : Away w pv S gx)
    (nb : w.heap[gb]? = some (.cells #[.func (.func 56) #[] #[]] tb (0, 0))) (hab : Apart w pv S gb) (hxb : gx ≠ gb)
    (hr : ReadsR w a 3 (L.map rowV)) (hap : L ≠ [] → ∀ b off, a = some ⟨b, off, none⟩ → b < w.heap.size ∧ Apart w pv S b)
    (K : Nat) (hK : K ≤ 2000) (hLl : L.length ≤ 2000) (hfit : ∀ i, i < K → (runS zeroUse L S i).fits 7) (hM : ∀ i, i ≤ K → decide (i < L.length ∨ 0 < leftS (runS zeroUse L S i)) = decide (i < K)) :
    Calls Tryz.prog 95 #[pv, .pointer (some ⟨gx, 0, none⟩), .pointer (some ⟨gb, 0, none⟩)] w (RestPost 127 lt 3 w pv S (runS zeroUse L S K) gx (runD zeroUse L S K)) := by
  obtain ⟨ti, vi, rfl⟩ := port_iface hport
  have q1 := below_box w (.cells #[(.iface ti vi)] 102)
  have m1 := heap_alloc_new w (.cells #[(.iface ti vi)] 102)
  obtain ⟨w1, hw1⟩ : ∃ x, w.alloc (.cells #[(.iface ti vi)] 102) = x := ⟨_, rfl⟩
  have hs1 : w1.heap.size = w.heap.size + 1 := by rw [← hw1]; simp
  rw [hw1] at q1 m1
  have q2 := below_box w1 (.cells #[.pointer (some ⟨gx, 0, none⟩)] 180)
  have m2 := heap_alloc_new w1 (.cells #[.pointer (some ⟨gx, 0, none⟩)] 180)
  obtain ⟨w2, hw2⟩ : ∃ x, w1.alloc (.cells #[.pointer (some ⟨gx, 0, none⟩)] 180) = x := ⟨_, rfl⟩
  have hs2 : w2.heap.size = w.heap.size + 2 := by rw [← hw2]; simp [hs1]
  rw [hw2, hs1] at q2 m2
  obtain ⟨w3, hw3⟩ : ∃ x, w2.drew = x := ⟨_, rfl⟩
  have hs3 : w3.heap.size = w.heap.size + 2 := by rw [← hw3]; exact hs2
  have q3 : Below (w.heap.size + 1) w1 w3 := by rw [← hw3]; exact q2.drew
  have m3 : w3.heap[w.heap.size + 1]? = some (.cells #[.pointer (some ⟨gx, 0, none⟩)] 180 (0, 0)) := by rw [← hw3]; exact m2
  have hq := below_next q1 (hs1 ▸ q3)
  have hgx : gx < w.heap.size := (Array.getElem?_eq_some_iff.1 nx).1
  have hgb : gb < w.heap.size := (Array.getElem?_eq_some_iff.1 nb).1
  have m12 := (q3.block w.heap.size (by omega)).trans m1
  have nx2 := (hq.block gx hgx).trans nx
  have nb2 := (hq.block gb hgb).trans nb
  obtain ⟨p1, p2, p3⟩ := port_kept hport (below_grown0 hq) (fun k hk => by cases hk)
  have hax2 := (p2 gx).1 hax
  have hab2 := (p3 gb).1 hab
  have hr2 := hr.below hq
  have hap2 : L ≠ [] → ∀ b off, a = some ⟨b, off, none⟩ → b < w3.heap.size ∧ Apart w3 (.iface ti vi) S b := fun h b off e => ⟨by have := (hap h b off e).1; omega, (p3 b).1 (hap h b off e).2⟩
  have aP : Apart w3 (.iface ti vi) S w.heap.size := (p3 _).1 (away_ne hport (Nat.le_refl _))
  have aL : Apart w3 (.iface ti vi) S (w.heap.size + 1) := (p3 _).1 (away_ne hport (by omega))
  have keep : ∀ (W : World) (v : Value) (S' : PS) (dn : List (List FldD)), EachAt 127 3 w3 (.iface ti vi) S W S' v dn → W.heap[gx]? = some (.cells #[.slice a L.length cap] lt (0, 0)) ∧ W.heap[gb]? = some (.cells #[.func (.func 56) #[] #[]] tb (0, 0)) ∧ W.heap[w.heap.size]? = some (.cells #[(.iface ti vi)] 102 (0, 0)) ∧ W.heap[w.heap.size + 1]? = some (.cells #[.pointer (some ⟨gx, 0, none⟩)] 180 (0, 0)) := fun W v S' dn h =>
    ⟨(h.went.block gx (by omega) hax2.apart (by omega)).trans nx2, (h.went.block gb (by omega) hab2 (by omega)).trans nb2, (h.went.block w.heap.size (by omega) aP (by omega)).trans m12, (h.went.block (w.heap.size + 1) (by omega) aL (by omega)).trans m3⟩
  have hmore : ∀ (i : Nat) (W : World) (v : Value), i ≤ K → EachAt 127 3 w3 (.iface ti vi) S W (runS zeroUse L S i) v (runD zeroUse L S i) → Calls Tryz.prog 97 (#[.int .i64 (i : Int)] ++ #[.pointer (some ⟨w.heap.size + 1, 0, none⟩), .pointer (some ⟨w.heap.size, 0, none⟩)]) W fun e w' => e = .returned (.bool (decide (i < K))) ∧ W = w' := fun i W v hi h => by
    obtain ⟨k1, k2, k3, k4⟩ := keep W v _ _ h
    have := moreUse_is (n := L.length) (cap := cap) (a := a) h.went.port ((cell_of_row k4 0).trans rfl) ((cell_of_row k1 0).trans rfl) ((cell_of_row k3 0).trans rfl) i
    rw [hM i hi] at this
    exact this
  have HCALL := Lib.hid (eachUse_is L hL a cap hr2 hap2 p1 K hK hLl hfit 97 _ enters_moreUse hmore)
  have HKEEP := Lib.hid keep
  have HFIN := Lib.hid (fun (W : World) (v : Value) (S' : PS) (dn : List (List FldD)) (h : EachAt 127 3 w3 (.iface ti vi) S W S' v dn) => (show RestPost 127 lt 3 w (.iface ti vi) S S' gx dn (.returned (.tuple #[])) (W.setCell ⟨gx, 0, none⟩ v) from rest_fin hport hq hlt hgx hax nx h))
  have c0 : w3.cell? ⟨w.heap.size + 1, 0, none⟩ = some (.pointer (some ⟨gx, 0, none⟩)) := (cell_of_row m3 0).trans rfl
  have c1 : w3.cell? ⟨w.heap.size, 0, none⟩ = some (.iface ti vi) := (cell_of_row m12 0).trans rfl
  have c2 : w3.cell? ⟨gx, 0, none⟩ = some (.slice a L.length cap) := (cell_of_row nx2 0).trans rfl
  have c3 : w3.cell? ⟨gb, 0, none⟩ = some (.func (.func 56) #[] #[]) := (cell_of_row nb2 0).trans rfl
  clear q1 m1 q2 m2 q3 m3 hq m12 nx2 nb2 p1 p2 p3 hax2 hab2 hr2 hap2 aP aL keep hmore nx nb hr hap hax hab hport hL hfit hM hs2 hs3
  go_enter Tryz.func95, Tryz.ntmps95
  go_wp2_with fail
  subst hw3
  refine wp_region_held_drew (S := fun W => W.cell? ⟨w.heap.size + 1, 0, none⟩ = some (.pointer (some ⟨gx, 0, none⟩)) ∧ W.cell? ⟨w.heap.size, 0, none⟩ = some (.iface ti vi) ∧ W.cell? ⟨gb, 0, none⟩ = some (.func (.func 56) #[] #[])) (by kernel_rfl) ⟨c0, c1, c3⟩ (fun hHeld => ?_)
  refine wpAnyH_take (i := 0) (v := .pointer (some ⟨gx, 0, none⟩)) rfl (by kernel_rfl) (by kernel_rfl) (by kernel_rfl) (fun _ _ _ h => h) (Or.inl ⟨by rfl, by intro W hSw; (try dsimp only at hSw); go_simp⟩) (by assumption) ?_
  try simp only [Act.put, List.setIfInBounds_toArray, List.set_cons_zero, List.set_cons_succ]
  refine wpAnyH_take (i := 1) (v := .iface ti vi) rfl (by kernel_rfl) (by kernel_rfl) (by kernel_rfl) (fun _ _ _ h => h) (Or.inl ⟨by rfl, by intro W hSw; (try dsimp only at hSw); go_simp⟩) (by assumption) ?_
  try simp only [Act.put, List.setIfInBounds_toArray, List.set_cons_zero, List.set_cons_succ]
  refine wpAnyH_take (i := 2) (v := .pointer (some ⟨gx, 0, none⟩)) rfl (by kernel_rfl) (by kernel_rfl) (by kernel_rfl) (fun _ _ _ h => h) (Or.inl ⟨by rfl, by intro W hSw; (try dsimp only at hSw); go_simp⟩) (by assumption) ?_
  try simp only [Act.put, List.setIfInBounds_toArray, List.set_cons_zero, List.set_cons_succ]
  refine wpAnyH_take (i := 3) (v := .pointer (some ⟨gx, 0, none⟩)) rfl (by kernel_rfl) (by kernel_rfl) (by kernel_rfl) (fun _ _ _ h => h) (Or.inl ⟨by rfl, by intro W hSw; (try dsimp only at hSw); go_simp⟩) (by assumption) ?_
  try simp only [Act.put, List.setIfInBounds_toArray, List.set_cons_zero, List.set_cons_succ]
  refine wpAnyH_take (i := 5) (v := .func (.func 97) #[] #[.pointer (some ⟨w.heap.size + 1, 0, none⟩), .pointer (some ⟨w.heap.size, 0, none⟩)]) rfl (by kernel_rfl) (by kernel_rfl) (by kernel_rfl) (fun _ _ _ h => h) (Or.inl ⟨by rfl, by intro W hSw; (try dsimp only at hSw); go_simp⟩) (by assumption) ?_
  try simp only [Act.put, List.setIfInBounds_toArray, List.set_cons_zero, List.set_cons_succ]
  refine wpAnyH_take (i := 6) (v := .func (.func 56) #[] #[]) rfl (by kernel_rfl) (by kernel_rfl) (by kernel_rfl) (fun _ _ _ h => h) (Or.inl ⟨by rfl, by intro W hSw; (try dsimp only at hSw); go_simp⟩) (by assumption) ?_
  try simp only [Act.put, List.setIfInBounds_toArray, List.set_cons_zero, List.set_cons_succ]
  refine wpAnyH_ready (rs := [4]) (by kernel_rfl) (by simp) ?_
  refine AllReadyH.cons rfl (fun K' hK' => ?_) AllReadyH.nil
  go_simp
  refine hK'.out _ _ hHeld (fun hHeld => ?_)
  clear hK' K'
  try simp only [Act.put, List.setIfInBounds_toArray, List.set_cons_zero, List.set_cons_succ]
  refine wpAnyH_ready (rs := [7]) (by kernel_rfl) (by simp) ?_
  refine AllReadyH.cons rfl (fun K' hK' => ?_) AllReadyH.nil
  go_simp
  refine HCALL.out.mono ?_
  rintro e w5 ⟨v5, rfl, h5⟩
  obtain ⟨a5, n5, q5, rfl⟩ := each_shape h5
  obtain ⟨k1, k2, k3, k4⟩ := HKEEP.out w5 _ _ _ h5
  have c5 : w5.cell? ⟨gx, 0, none⟩ = some (.slice a L.length cap) := (cell_of_row k1 0).trans rfl
  have f5 := frozen_of_row w5 gx 0 _ _ k1
  have SA : w5.cell? ⟨w.heap.size + 1, 0, none⟩ = some (.pointer (some ⟨gx, 0, none⟩)) ∧ w5.cell? ⟨w.heap.size, 0, none⟩ = some (.iface ti vi) ∧ w5.cell? ⟨gb, 0, none⟩ = some (.func (.func 56) #[] #[]) := ⟨(cell_of_row k4 0).trans rfl, (cell_of_row k3 0).trans rfl, (cell_of_row k2 0).trans rfl⟩
  have SB : (w5.setCell ⟨gx, 0, none⟩ (.slice a5 n5 q5)).cell? ⟨w.heap.size + 1, 0, none⟩ = some (.pointer (some ⟨gx, 0, none⟩)) ∧ (w5.setCell ⟨gx, 0, none⟩ (.slice a5 n5 q5)).cell? ⟨w.heap.size, 0, none⟩ = some (.iface ti vi) ∧ (w5.setCell ⟨gx, 0, none⟩ (.slice a5 n5 q5)).cell? ⟨gb, 0, none⟩ = some (.func (.func 56) #[] #[]) := ⟨(World.cell?_of_block (a := ⟨w.heap.size + 1, 0, none⟩) (Below.heap_setCell _ _ _ _ (by show w.heap.size + 1 ≠ gx; omega))).trans SA.1, (World.cell?_of_block (a := ⟨w.heap.size, 0, none⟩) (Below.heap_setCell _ _ _ _ (by show w.heap.size ≠ gx; omega))).trans SA.2.1, (World.cell?_of_block (a := ⟨gb, 0, none⟩) (Below.heap_setCell _ _ _ _ (Ne.symm hxb))).trans SA.2.2⟩
  have HFF := HFIN.out _ _ _ _ h5
  clear h5 k1 k2 k3 k4 hHeld
  refine hK'.out _ _ SA (fun hHeld => ?_)
  clear hK' K'
  try simp only [Act.put, List.setIfInBounds_toArray, List.set_cons_zero, List.set_cons_succ]
  refine wpAnyH_take (i := 8) (v := .pointer (some ⟨gx, 0, none⟩)) rfl (by kernel_rfl) (by kernel_rfl) (by kernel_rfl) (fun _ _ _ h => h) (Or.inl ⟨by rfl, by intro W hSw; (try dsimp only at hSw); go_simp⟩) (by assumption) ?_
  try simp only [Act.put, List.setIfInBounds_toArray, List.set_cons_zero, List.set_cons_succ]
  refine wpAnyH_ready (rs := [9]) (by kernel_rfl) (by simp) ?_
  refine AllReadyH.cons rfl (fun K' hK' => ?_) AllReadyH.nil
  go_simp
  refine hK'.out _ _ SB (fun hHeld => ?_)
  clear hK' K'
  refine wpAnyH_done (by kernel_rfl) ?_ _
  go_end0
  exact HFF
end Go.Proofs.YtgakidimipipeaaGreat

namespace Go.Proofs.YtgakidimipipeaaGreat
open Go.RowKit Go.Sort
set_option linter.unusedVariables false
set_option linter.unusedSimpArgs false
set_option maxRecDepth 100000

theorem zeroUse_cons : ∃ x l, zeroUse = x :: l ∧ 1 ≤ x.width := ⟨_, _, rfl, by decide⟩
theorem zeroUse_width : ∀ x ∈ zeroUse, x.width ≤ 4 := by decide
theorem zeroUse_widths : widths zeroUse = 7 := rfl
theorem outUse_is {b : List Nat} (hb : Bytes b) : IsFUse (stO (.rd b) zeroUse) := by
  have hlen : (stO (.rd b) zeroUse).length = 3 := by rw [stO_length]; rfl
  obtain ⟨z0, g0, p0, q0⟩ := stO_rd zeroUse b hb zeroUse_width 0 _ rfl
  obtain ⟨z1, g1, p1, q1⟩ := stO_rd zeroUse b hb zeroUse_width 1 _ rfl
  obtain ⟨z2, g2, p2, q2⟩ := stO_rd zeroUse b hb zeroUse_width 2 _ rfl
  match h : stO (.rd b) zeroUse, hlen with
  | [a0, a1, a2], _ =>
    rw [h] at g0 g1 g2
    obtain rfl : a0 = ⟨.i64, 2, z0⟩ := Option.some.inj g0
    obtain rfl : a1 = ⟨.i64, 1, z1⟩ := Option.some.inj g1
    obtain rfl : a2 = ⟨.u32, 4, z2⟩ := Option.some.inj g2
    exact ⟨z0, z1, z2, rfl, (by unfold I64; omega), (by unfold I64; omega), ⟨p2, q2⟩⟩
theorem itemsUse_is {b : List Nat} (hb : Bytes b) : ∀ x ∈ itemsR zeroUse b, IsFUse x := by
  intro x hx
  obtain ⟨b', rfl, k⟩ := runD_mem zeroUse b _ x hx
  exact outUse_is (k hb)
set_option maxHeartbeats 1600000 in
theorem pwriteUse_is {w : World} (L : List (List FldD)) (hL : ∀ x ∈ L, IsFUse x) (hLl : L.length ≤ 60) (a : Option Addr) (cap gb : Nat) (tb : TypeId) (nb : w.heap[gb]? = some (.cells #[.func (.func 56) #[] #[]] tb (0, 0))) (hr : ReadsR w a 3 (L.map rowV)) :
    Calls Tryz.prog 112 #[.slice a L.length cap, .func (.func 95) #[] #[.pointer (some ⟨gb, 0, none⟩)]] w fun e w' => Below w.heap.size w w' ∧
      ((wrF L.flatten = true ∧ e = .returned (.tuple #[.slice none 0 0, .int .i64 1])) ∨ (wrF L.flatten = false ∧ ∃ v, e = .returned (.tuple #[v, .int .i64 0]) ∧ Owns w.heap.size w' v (wrB L.flatten))) := by
  have b1 := below_box w (.cells #[.slice a L.length cap] 68)
  have n1 := heap_alloc_new w (.cells #[.slice a L.length cap] 68)
  obtain ⟨w1, hw1⟩ : ∃ w1, w.alloc (.cells #[.slice a L.length cap] 68) = w1 := ⟨_, rfl⟩
  have hs1 : w1.heap.size = w.heap.size + 1 := by rw [← hw1]; simp
  rw [hw1] at b1 n1
  have hgb : gb < w.heap.size := (Array.getElem?_eq_some_iff.1 nb).1
  have b2 := below_box w1 (.cells #[.slice none 0 0, .bool false] 157)
  have hp := isPort_new w1
  have ha := fun k (hk : k < w1.heap.size) => away_new w1 hk
  obtain ⟨w2, hw2⟩ : ∃ w2, w1.alloc (.cells #[.slice none 0 0, .bool false] 157) = w2 := ⟨_, rfl⟩
  have hs2 : w2.heap.size = w.heap.size + 2 := by rw [← hw2]; simp [hs1]
  rw [hw2] at b2 hp ha
  have n2 := (b2.block w.heap.size (by omega)).trans n1
  have nb2 := (b2.block gb (by omega)).trans ((b1.block gb hgb).trans nb)
  have hr2 := (hr.below b1).below b2
  have hab : L ≠ [] → ∀ b off, a = some ⟨b, off, none⟩ → b < w2.heap.size ∧ Apart w2 (.iface 158 (.pointer (some ⟨w1.heap.size, 0, none⟩))) (.wr [] false) b := fun hne b off e => by
    obtain ⟨_, h | ⟨b', off', e', hb', _⟩⟩ := hr
    · exact absurd (List.map_eq_nil_iff.1 h) hne
    · rw [e] at e'
      cases e'
      exact ⟨by omega, (ha b (by omega)).apart⟩
  have HST := Lib.hid (restUse_is hp L hL a cap w.heap.size gb _ tb (by decide) n2 (ha _ (by omega)) nb2 (ha _ (by omega)).apart (by omega) hr2 hab L.length (by omega) (by omega) (fits_run zeroUse L (fun x hx => isFUse_widths (hL x hx)) (by omega)) (left_wr zeroUse L))
  rw [runD_wr zeroUse L [] false L.length (Nat.le_refl _), runS_wr zeroUse L _ L.length (Nat.le_refl _), List.take_length, stS_is] at HST
  have HA := Lib.hid ha
  have HB2 := Lib.hid (below_next b1 b2)
  clear b1 n1 b2 hp ha n2 nb nb2 hr hr2 hab
  go_enter Tryz.func112, Tryz.ntmps112
  go_wp2_with fail
  rw [hs1] at HST HA
  refine HST.out.mono ?_
  rintro e w3 ⟨rfl, v3, _, _, hp3⟩
  obtain ⟨g, v, he, hw3, ho3⟩ := hp3.port
  obtain rfl : g = w.heap.size + 1 := by cases he; rfl
  have hb3 : Below w.heap.size w w3 := by
    have hb : Below w.heap.size w2 w3 := by
      refine ⟨hp3.os, hp3.tape, hp3.output, hp3.size, fun k hk => ?_⟩
      exact hp3.block k (by omega) (HA.out k (by omega)).apart (by omega)
    exact HB2.out.trans hb
  have hon : Owns w.heap.size w3 v (wrB L.flatten) := by
    refine owns_raise ho3 fun k hk => ?_
    have h2 := hp3.away k (by omega) (HA.out k (by omega))
    exact ((away_wr ⟨hw3, ho3⟩).1 h2).2
  have c0 := cell_of_row hw3 0
  have c1 := cell_of_row hw3 1
  obtain ⟨av, lv, cpv, hv⟩ := owned_slice hon.2
  subst hv
  have HB3 := Lib.hid hb3
  have HO := Lib.hid hon
  clear hp3 hw3 ho3 hon hb3 he HST HA HB2 hw1 hw2
  cases hf : wrF L.flatten with
  | true =>
    rw [hf] at c1
    go_wp2
    go_ret2
    exact ⟨HB3.out, .inl ⟨hf, rfl⟩⟩
  | false =>
    rw [hf] at c1
    go_wp2
    go_ret2
    exact ⟨HB3.out, .inr ⟨hf, _, rfl, HO.out⟩⟩
set_option maxHeartbeats 1600000 in
theorem preadUse_is {w : World} {b : List Nat} {a : Option Addr} {cap gb : Nat} (tb : TypeId) (nb : w.heap[gb]? = some (.cells #[.func (.func 56) #[] #[]] tb (0, 0))) (hr : Reads w a b.length b) (hc : b.length ≤ cap) (hm : cap ≤ maxLen) (hbl : b.length ≤ 1000) :
    Calls Tryz.prog 92 #[.slice a b.length cap, .func (.func 95) #[] #[.pointer (some ⟨gb, 0, none⟩)]] w (ReadListPost 127 3 w (itemsR zeroUse b)) := by
  have b1 := below_box w (.cells #[.slice none 0 0] 68)
  have n1 := heap_alloc_new w (.cells #[.slice none 0 0] 68)
  obtain ⟨w1, hw1⟩ : ∃ w1, w.alloc (.cells #[.slice none 0 0] 68) = w1 := ⟨_, rfl⟩
  have hs1 : w1.heap.size = w.heap.size + 1 := by rw [← hw1]; simp
  rw [hw1] at b1 n1
  have hgb : gb < w.heap.size := (Array.getElem?_eq_some_iff.1 nb).1
  have hr1 := hr.below b1
  have b2 := below_box w1 (.cells #[.slice a b.length cap] 205)
  have hp := isPort_rd hr1 hc hm
  have hab : b ≠ [] → ∀ x, a = some x → x.block < w.heap.size := by
    intro hb x hx
    obtain ⟨_, _, h | ⟨blk, off, rfl, hlt, _⟩⟩ := hr
    · exact absurd h hb
    · cases hx; exact hlt
  have ha := away_rd_new hr1 hc hm (k := w.heap.size) (by omega) (fun hb x hx => Nat.ne_of_lt (hab hb x hx))
  have hap : ∀ k, k < w1.heap.size → Apart (w1.alloc (.cells #[.slice a b.length cap] 205)) (.iface 203 (.pointer (some ⟨w1.heap.size, 0, none⟩))) (.rd b) k := fun k hk => by
    obtain ⟨g, a', cap', he, h⟩ := hp
    obtain rfl : g = w1.heap.size := by cases he; rfl
    exact (apart_rd h).2 (by omega)
  obtain ⟨w2, hw2⟩ : ∃ w2, w1.alloc (.cells #[.slice a b.length cap] 205) = w2 := ⟨_, rfl⟩
  have hs2 : w2.heap.size = w.heap.size + 2 := by rw [← hw2]; simp [hs1]
  rw [hw2] at b2 hp ha hap
  have n2 := (b2.block w.heap.size (by omega)).trans n1
  have nb2 := (b2.block gb (by omega)).trans ((b1.block gb hgb).trans nb)
  have hK : countR zeroUse b ≤ b.length := (rounds_spec zeroUse_cons b.length b (Nat.le_refl _)).1
  have HST := Lib.hid (restUse_is hp [] (by simp) none 0 w.heap.size gb _ tb (by decide) n2 ha nb2 (hap gb (by omega)) (by omega) (ReadsR.nil _ _ _) (fun h => absurd rfl h) (countR zeroUse b) (by omega) (by simp) (fun i _ => by obtain ⟨b', e, _⟩ := runS_rd zeroUse b i; rw [e]; trivial) (left_rd zeroUse_cons b))
  have HAP := Lib.hid hap
  have HB2 := Lib.hid (below_next b1 b2)
  clear b1 n1 b2 hp ha n2 nb nb2 hr hr1 hab hap hK
  go_enter Tryz.func92, Tryz.ntmps92
  go_wp2_with fail
  rw [hs1] at HST HAP
  refine HST.out.mono ?_
  rintro e w3 ⟨rfl, v3, hx3, ho3, hp3⟩
  have hb3 : Below w.heap.size w w3 := by
    have hb : Below w.heap.size w2 w3 := by
      refine ⟨hp3.os, hp3.tape, hp3.output, hp3.size, fun k hk => ?_⟩
      exact hp3.block k (by omega) (HAP.out k (by omega)) (by omega)
    exact HB2.out.trans hb
  obtain ⟨a3, c3, rfl, _, _, _⟩ := ho3.reads
  have c0 := cell_of_row hx3 0
  have HB3 := Lib.hid hb3
  have HO := Lib.hid (ho3.less (show w.heap.size ≤ w2.heap.size by omega))
  obtain ⟨n3, hn3⟩ : ∃ n, (List.map rowV (runD zeroUse [] (.rd b) (countR zeroUse b))).length = n := ⟨_, rfl⟩
  rw [hn3] at c0 HO
  clear hp3 hx3 ho3 hb3 HST HAP HB2 hw1 hw2 hn3
  go_wp2
  go_ret
  exact ⟨HB3.out, _, rfl, HO.out⟩
end Go.Proofs.YtgakidimipipeaaGreat

namespace Go.Proofs.YtgakidimipipeaaGreat
open Go.RowKit Go.Sort
set_option linter.unusedVariables false
set_option linter.unusedSimpArgs false
set_option maxRecDepth 100000

def mayUse (l : List FldD) : Bool := decide (0 ≤ fieldZ l 1 ∧ fieldZ l 1 ≤ 3)
def upUse (L : List (List FldD)) : Bool := decide (L.length ≤ 15) && L.all mayUse
noncomputable def writeUse (L : List (List FldD)) : List Nat × Int := if upUse L = false ∨ wrF L.flatten = true then (noughts, 1) else (sealL 5 (wrB L.flatten), 0)
theorem mayUse_is (z0 z1 z2 : Int) (w : World) : Calls Tryz.prog 54 #[.agg #[.int .i64 z0, .int .i64 z1, .int .u32 z2]] w fun e w' => e = .returned (.bool (mayUse (fldUse z0 z1 z2))) ∧ Below w.heap.size w w' := by
  have hm : mayUse (fldUse z0 z1 z2) = decide (0 ≤ z1 ∧ z1 ≤ 3) := rfl
  rw [hm]
  clear hm
  go_enter Tryz.func54, Tryz.ntmps54
  go_wp2_with fail
  refine (among_is z1 0 3 _).mono ?_
  rintro e w2 ⟨rfl, rfl⟩
  go_wp2
  go_ret
  exact ⟨by simp, below_box _ _⟩
def IsUpUse (w : World) (v : Value) : Prop := ∃ g1 g2 : Nat, v = .func (.func 94) #[] #[.pointer (some ⟨g1, 0, none⟩), .pointer (some ⟨g2, 0, none⟩)] ∧ w.heap[g1]? = some (.cells #[.int .i64 15] 3 (0, 0)) ∧ w.heap[g2]? = some (.cells #[.func (.func 54) #[] #[]] 128 (0, 0))
theorem IsUpUse.below {w w' : World} {v : Value} (h : IsUpUse w v) (b : Below w.heap.size w w') : IsUpUse w' v := by
  obtain ⟨g1, g2, e, h1, h2⟩ := h
  exact ⟨g1, g2, e, (b.block g1 (Array.getElem?_eq_some_iff.1 h1).1).trans h1, (b.block g2 (Array.getElem?_eq_some_iff.1 h2).1).trans h2⟩
def IsRestUse (w : World) (v : Value) : Prop := ∃ g : Nat, v = .func (.func 95) #[] #[.pointer (some ⟨g, 0, none⟩)] ∧ w.heap[g]? = some (.cells #[.func (.func 56) #[] #[]] 131 (0, 0))
theorem IsRestUse.below {w w' : World} {v : Value} (h : IsRestUse w v) (b : Below w.heap.size w w') : IsRestUse w' v := by
  obtain ⟨g, e, h1⟩ := h
  exact ⟨g, e, (b.block g (Array.getElem?_eq_some_iff.1 h1).1).trans h1⟩
theorem uptoUse_is (w : World) : Calls Tryz.prog 53 #[.int .i64 15, .func (.func 54) #[] #[]] w fun e w' => ∃ v, e = .returned v ∧ IsUpUse w' v ∧ Below w.heap.size w w' := by
  have q1 := below_box w (.cells #[.int .i64 15] 3)
  have m1 := heap_alloc_new w (.cells #[.int .i64 15] 3)
  obtain ⟨w1, hw1⟩ : ∃ x, w.alloc (.cells #[.int .i64 15] 3) = x := ⟨_, rfl⟩
  have hs1 : w1.heap.size = w.heap.size + 1 := by rw [← hw1]; simp
  rw [hw1] at q1 m1
  have q2 := below_box w1 (.cells #[.func (.func 54) #[] #[]] 128)
  have m2 := heap_alloc_new w1 (.cells #[.func (.func 54) #[] #[]] 128)
  obtain ⟨w2, hw2⟩ : ∃ x, w1.alloc (.cells #[.func (.func 54) #[] #[]] 128) = x := ⟨_, rfl⟩
  rw [hw2] at q2 m2
  have m12 := (q2.block w.heap.size (by omega)).trans m1
  have HB := Lib.hid (below_next q1 q2)
  have HU : Hid (IsUpUse w2 (.func (.func 94) #[] #[.pointer (some ⟨w.heap.size, 0, none⟩), .pointer (some ⟨w1.heap.size, 0, none⟩)])) := Lib.hid ⟨_, _, rfl, m12, m2⟩
  clear q1 m1 q2 m2 m12
  go_enter Tryz.func53, Tryz.ntmps53
  go_wp2
  go_ret
  rw [hs1] at HU
  exact ⟨_, rfl, HU.out, HB.out⟩
theorem rest0Use_is (w : World) : Calls Tryz.prog 55 #[.func (.func 56) #[] #[]] w fun e w' => ∃ v, e = .returned v ∧ IsRestUse w' v ∧ Below w.heap.size w w' := by
  have q1 := below_box w (.cells #[.func (.func 56) #[] #[]] 131)
  have m1 := heap_alloc_new w (.cells #[.func (.func 56) #[] #[]] 131)
  have H := Lib.hid (And.intro q1 m1)
  clear q1 m1
  go_enter Tryz.func55, Tryz.ntmps55
  go_wp2
  go_ret
  exact ⟨_, rfl, ⟨_, rfl, H.out.2⟩, H.out.1⟩
set_option maxHeartbeats 1600000 in
theorem upsUse_is {w : World} (L : List (List FldD)) (hL : ∀ x ∈ L, IsFUse x) (a : Option Addr) (cap : Nat) (hr : ReadsR w a 3 (L.map rowV)) (g1 g2 : Nat) (n1 : w.heap[g1]? = some (.cells #[.int .i64 15] 3 (0, 0))) (n2 : w.heap[g2]? = some (.cells #[.func (.func 54) #[] #[]] 128 (0, 0))) :
    Calls Tryz.prog 94 #[.slice a L.length cap, .pointer (some ⟨g1, 0, none⟩), .pointer (some ⟨g2, 0, none⟩)] w fun e w' => e = .returned (.bool (upUse L)) ∧ Below w.heap.size w w' := by
  have hg1 : g1 < w.heap.size := (Array.getElem?_eq_some_iff.1 n1).1
  have hg2 : g2 < w.heap.size := (Array.getElem?_eq_some_iff.1 n2).1
  have c1 : w.cell? ⟨g1, 0, none⟩ = some (.int .i64 15) := (cell_of_row n1 0).trans rfl
  have c2 : w.cell? ⟨g2, 0, none⟩ = some (.func (.func 54) #[] #[]) := (cell_of_row n2 0).trans rfl
  obtain ⟨n, hn⟩ : ∃ n, L.length = n := ⟨_, rfl⟩
  have HN := Lib.hid hn
  have HL := Lib.hid hL
  have HR := Lib.hid hr
  rw [hn]
  clear hn hL hr n1 n2
  by_cases hm : n ≤ 15
  · have hmI : ¬ ((15 : Int) < (n : Int)) := by omega
    have HUP : Hid (upUse L = L.all mayUse) := by show _ = _; unfold upUse; rw [HN.out, decide_eq_true hm, Bool.true_and]
    have HC2 := Lib.hid c2
    clear c2
    go_enter Tryz.func94, Tryz.ntmps94
    go_wp2
    clear c1
    go_loopw [13] (fun i wr => ∃ k : Nat, k ≤ n ∧ i = .int .i64 k ∧ Hid (∀ x ∈ L.take k, mayUse x = true) ∧ Hid (Below w.heap.size w wr)) (fun i _ => n - (intOf i).toNat)
    case atStart => exact ⟨0, Nat.zero_le _, rfl, Lib.hid (by simp), Lib.hid (Below.refl _ _)⟩
    case round =>
      obtain ⟨k, hk, rfl, HA, HB⟩ := hrel
      by_cases hlt : k < n
      · obtain ⟨x, hx⟩ : ∃ x, L[k]? = some x := ⟨_, List.getElem?_eq_getElem (by rw [HN.out]; exact hlt)⟩
        obtain ⟨z0, z1, z2, rfl, _⟩ := HL.out x (List.mem_of_getElem? hx)
        obtain ⟨b, off, rfl, hb, hc⟩ := (HR.out.below HB.out).row (show (L.map rowV)[k]? = some (rowV (fldUse z0 z1 z2)) by rw [List.getElem?_map, hx]; rfl)
        have hcell : ∀ (i : Nat) (u : Value), (rowV (fldUse z0 z1 z2))[i]? = some u → wr.cell? ⟨b, off + k * 3 + i, none⟩ = some u := fun i u hi => by
          have h1 := hc i u hi
          rwa [← Nat.add_assoc] at h1
        have c_0 : wr.cell? ⟨b, off + k * 3, none⟩ = some (.int .i64 z0) := hcell 0 _ rfl
        have c_1 : wr.cell? ⟨b, off + k * 3 + 1, none⟩ = some (.int .i64 z1) := hcell 1 _ rfl
        have c_2 : wr.cell? ⟨b, off + k * 3 + 2, none⟩ = some (.int .u32 z2) := hcell 2 _ rfl
        have c2 : wr.cell? ⟨g2, 0, none⟩ = some (.func (.func 54) #[] #[]) := (HB.out.cell (p := ⟨g2, 0, none⟩) hg2).trans HC2.out
        have hg2r : g2 < wr.heap.size := Nat.lt_of_lt_of_le hg2 HB.out.size
        have c2' : (wr.alloc (.cells #[.int .i64 z0, .int .i64 z1, .int .u32 z2] 127)).cell? ⟨g2, 0, none⟩ = some (.func (.func 54) #[] #[]) := ((below_box wr (.cells #[.int .i64 z0, .int .i64 z1, .int .u32 z2] 127)).cell (p := ⟨g2, 0, none⟩) hg2r).trans c2
        have hx0 : (0 : Int) ≤ (k : Int) := by omega
        have hx1 : (k : Int) < (n : Int) := by omega
        have HX := Lib.hid hx
        have HMAY := Lib.hid (mayUse_is z0 z1 z2 (wr.alloc (.cells #[.int .i64 z0, .int .i64 z1, .int .u32 z2] 127)))
        clear hc hcell hx hb
        cases hmy : mayUse (fldUse z0 z1 z2) with
        | true =>
          rw [hmy] at HMAY
          have HMY := Lib.hid hmy
          clear hmy
          go_wp2_with (go_at_call 54; refine HMAY.out.mono ?_; rintro e w5 ⟨rfl, b5⟩; have HB5 := Lib.hid (below_next (below_next HB.out (below_box wr (.cells #[.int .i64 z0, .int .i64 z1, .int .u32 z2] 127))) b5); clear b5)
          go_roundw
          case rel =>
            refine ⟨k + 1, by omega, by go_num, Lib.hid fun x hx => ?_, HB5⟩
            rw [List.take_add_one, HX.out] at hx
            rcases List.mem_append.1 hx with hx | hx
            · exact HA.out x hx
            · obtain rfl : x = fldUse z0 z1 z2 := by simpa using hx
              exact HMY.out
          case measure => simp [intOf]; omega
        | false =>
          rw [hmy] at HMAY
          have HMY : Hid (upUse L = false) := by
            show _ = _
            rw [HUP.out]
            exact List.all_eq_false.2 ⟨_, List.mem_of_getElem? HX.out, by rw [hmy]; decide⟩
          clear hmy
          go_wp2_with (go_at_call 54; refine HMAY.out.mono ?_; rintro e w5 ⟨rfl, b5⟩; have HB5 := Lib.hid (below_next (below_next HB.out (below_box wr (.cells #[.int .i64 z0, .int .i64 z1, .int .u32 z2] 127))) b5); clear b5)
          go_ret
          exact ⟨by rw [HMY.out]; rfl, HB5.out⟩
      · obtain rfl : k = n := by omega
        have HMY : Hid (upUse L = true) := by
          show _ = _
          have h := HA.out
          rw [List.take_of_length_le (by rw [HN.out]; exact Nat.le_refl _)] at h
          rw [HUP.out]
          exact List.all_eq_true.2 h
        go_wp2
        go_ret
        exact ⟨by rw [HMY.out]; rfl, HB.out⟩
  · have hmI : ((15 : Int) < (n : Int)) := by omega
    have HMY : Hid (upUse L = false) := by show _ = _; unfold upUse; rw [HN.out, decide_eq_false hm, Bool.false_and]
    clear c2
    go_enter Tryz.func94, Tryz.ntmps94
    go_wp2
    go_ret
    exact ⟨by rw [HMY.out]; rfl, Below.refl _ _⟩
theorem upUse_len {L : List (List FldD)} (h : upUse L = true) : L.length ≤ 15 := by
  unfold upUse at h
  simp only [Bool.and_eq_true, decide_eq_true_eq] at h
  exact h.1
theorem wrUse_len {L : List (List FldD)} (hL : ∀ x ∈ L, IsFUse x) : (wrB L.flatten).length = L.length * 7 := by
  rw [wrB_length]
  exact widths_flat fun x hx => isFUse_widths (hL x hx)
theorem writeUse_length {L : List (List FldD)} (hL : ∀ x ∈ L, IsFUse x) : (writeUse L).1.length = 128 := by
  unfold writeUse
  split
  · rfl
  · rename_i h
    have h1 : upUse L = true := by cases hu : upUse L; exact absurd (.inl hu) h; rfl
    have h2 := upUse_len h1
    exact sealL_length (by rw [wrUse_len hL]; omega)
set_option maxHeartbeats 1600000 in
theorem writeUse_is {w : World} (L : List (List FldD)) (hL : ∀ x ∈ L, IsFUse x) (a : Option Addr) (cap : Nat) (hr : ReadsR w a 3 (L.map rowV)) (vu vr : Value) (hu : IsUpUse w vu) (hv : IsRestUse w vr) :
    Calls Tryz.prog 93 #[.int .u8 5, .slice a L.length cap, vu, vr] w fun e w' => e = .returned (.tuple #[.agg (cells (writeUse L).1), .int .i64 (writeUse L).2]) ∧ Below w.heap.size w w' := by
  have hz := zero_sector
  have hbld := build_sector
  have b2 := below_box w (.cells (cells noughts) 31)
  have n2 := heap_alloc_new w (.cells (cells noughts) 31)
  have hu2 := hu.below b2
  have hv2 := hv.below b2
  have hr2 := hr.below b2
  obtain ⟨w2, hw2⟩ : ∃ w2, w.alloc (.cells (cells noughts) 31) = w2 := ⟨_, rfl⟩
  rw [hw2] at n2 b2 hu2 hv2 hr2
  have hs2 : w2.heap.size = w.heap.size + 1 := by rw [← hw2]; simp
  obtain ⟨g1, g2, rfl, u1, u2⟩ := hu2
  have HV := Lib.hid hv2
  have hv3 := hv2
  obtain ⟨g, rfl, _⟩ := hv2
  have HR := Lib.hid hr2
  have HUP := Lib.hid (upsUse_is L hL a cap hr2 g1 g2 u1 u2)
  have HB := Lib.hid b2
  have HL := Lib.hid hL
  obtain ⟨n, hn⟩ : ∃ n, L.length = n := ⟨_, rfl⟩
  have HN := Lib.hid hn
  rw [hn] at HUP ⊢
  clear hu hv hr hr2 hv3 b2 u1 u2 hL hn
  go_enter Tryz.func93, Tryz.ntmps93
  go_wp2_with fail
  refine HUP.out.mono ?_
  rintro e w3 ⟨rfl, b3⟩
  have n2'' := (b3.block w.heap.size (by omega)).trans n2
  have HB3 : Hid (Below w.heap.size w w3) := HB.out.trans (b3.mono HB.out.size)
  have hs3 : w.heap.size + 1 ≤ w3.heap.size := by have := b3.size; omega
  have HR3 := Lib.hid (HR.out.below b3)
  have HV3 := Lib.hid (HV.out.below b3)
  clear b3 n2 HB hw2 hs2 HR HV
  cases hm : upUse L with
  | false =>
    have hfin : writeUse L = (noughts, 1) := if_pos (.inl hm)
    have HF := Lib.hid hfin
    clear hfin
    have hd := setRow_heap w3 w.heap.size _ (cells noughts) _ _ n2''
    have hb := below_setRow (g := w.heap.size) HB3.out (Nat.le_refl _) (cells noughts)
    go_wp2_with (refine wpList_store_sector rfl _ _ rfl w.heap.size noughts (by go_simp) (by go_simp) rfl _ _ n2'' rfl ?_)
    refine bodyPost_ret (results_sector rfl _ _ w.heap.size noughts _ _ rfl hd rfl) rfl ?_
    exact ⟨by rw [HF.out]; rfl, hb⟩
  | true =>
    have hmost := upUse_len hm
    obtain ⟨g', hge, hgn⟩ := HV3.out
    obtain rfl : g = g' := by simpa using hge
    have hpw := pwriteUse_is L HL.out (by omega) a cap g _ hgn HR3.out
    rw [HN.out] at hpw
    have HPW := Lib.hid hpw
    clear hpw hge hgn
    go_wp2_with fail
    refine HPW.out.mono ?_
    rintro e w4 ⟨b4, ⟨hf, rfl⟩ | ⟨hf, v, rfl, ho⟩⟩
    · have hfin : writeUse L = (noughts, 1) := if_pos (.inr hf)
      have HF := Lib.hid hfin
      clear hfin
      have n4 := (b4.block w.heap.size (by omega)).trans n2''
      have hd := setRow_heap w4 w.heap.size _ (cells noughts) _ _ n4
      have hb := below_setRow (g := w.heap.size) (HB3.out.trans (b4.mono HB3.out.size)) (Nat.le_refl _) (cells noughts)
      clear b4 n2'' hf
      go_wp2_with (refine wpList_store_sector rfl _ _ rfl w.heap.size noughts (by go_simp) (by go_simp) rfl _ _ n4 rfl ?_)
      refine bodyPost_ret (results_sector rfl _ _ w.heap.size noughts _ _ rfl hd rfl) rfl ?_
      exact ⟨by rw [HF.out]; rfl, hb⟩
    · have hfin : writeUse L = (sealL 5 (wrB L.flatten), 0) := if_neg (by rw [hm, hf]; simp)
      have HF := Lib.hid hfin
      clear hfin
      have n4 := (b4.block w.heap.size (by omega)).trans n2''
      obtain ⟨a4, cap4, rfl, hr4, _, _⟩ := ho.reads
      have HB4 : Hid (Below w.heap.size w w4) := HB3.out.trans (b4.mono HB3.out.size)
      have hs4 := Nat.le_trans hs3 b4.size
      have hlen : (wrB L.flatten).length ≤ 120 := by rw [wrUse_len HL.out]; omega
      clear b4 n2'' ho HB3 hf
      go_wp2_with fail
      refine (make_ok 5 (wrB L.flatten) a4 _ cap4 w4 hr4 hlen (by decide) (by decide)).mono ?_
      rintro e w5 ⟨rfl, b5⟩
      have n5 := (b5.block w.heap.size (by omega)).trans n4
      have hsl := sealL_length (kind := 5) hlen
      have hd := setRow_heap w5 w.heap.size _ (cells (sealL 5 (wrB L.flatten))) _ _ n5
      have hb := below_setRow (g := w.heap.size) (HB4.out.trans (b5.mono HB4.out.size)) (Nat.le_refl _) (cells (sealL 5 (wrB L.flatten)))
      clear b5 n4 hr4 HB4
      go_wp2_with (refine wpList_store_sector rfl _ _ rfl w.heap.size (sealL 5 (wrB L.flatten)) (by go_simp) (by go_simp) hsl _ _ n5 rfl ?_)
      refine bodyPost_ret (results_sector rfl _ _ w.heap.size (sealL 5 (wrB L.flatten)) _ _ rfl hd hsl) rfl ?_
      exact ⟨by rw [HF.out]; rfl, hb⟩
end Go.Proofs.YtgakidimipipeaaGreat

namespace Go.Proofs.YtgakidimipipeaaGreat
open Go.RowKit Go.Sort
set_option linter.unusedVariables false
set_option linter.unusedSimpArgs false
set_option maxRecDepth 100000

noncomputable def readUse (s : List Nat) : List (List FldD) × Int := if (writeUse (itemsR zeroUse (bO s))).2 = 0 ∧ (writeUse (itemsR zeroUse (bO s))).1 = s then (itemsR zeroUse (bO s), 0) else ([], 21)
set_option maxHeartbeats 1600000 in
theorem readUse_is {w : World} (s : List Nat) (hs : s.length = 128) (hb : Bytes s) (vu vr : Value) (hu : IsUpUse w vu) (hv : IsRestUse w vr) :
    Calls Tryz.prog 52 #[.int .u8 5, .agg (cells s), vu, vr] w (ReadsPost 127 3 w (readUse s)) := by
  have hz := zero_sector
  have b1 := below_box w (.cells (cells s) 31)
  have n1 := heap_alloc_new w (.cells (cells s) 31)
  have hu1 := hu.below b1
  have hv1 := hv.below b1
  obtain ⟨w1, hw1⟩ : ∃ w1, w.alloc (.cells (cells s) 31) = w1 := ⟨_, rfl⟩
  have hs1 : w1.heap.size = w.heap.size + 1 := by rw [← hw1]; simp
  rw [hw1] at b1 n1 hu1 hv1
  have HU := Lib.hid hu1
  have HV := Lib.hid hv1
  have HB := Lib.hid b1
  have HC := Lib.hid (box_cells hs n1)
  have HITS := Lib.hid (itemsUse_is (bO_bytes hb))
  have hblen := bO_length hs
  obtain ⟨gr, hvr, _⟩ := id hv
  subst hvr
  clear b1 hu hv hu1 hv1
  go_enter Tryz.func52, Tryz.ntmps52
  go_wp2_with (refine wpList_load_sector rfl _ rfl w.heap.size 0 s (by go_simp) hs HC.out ?_)
  refine (open_any2 s hs hb w1).mono ?_
  rintro e w3 ⟨b3, h3⟩
  have n1'' := (b3.block w.heap.size (by omega)).trans n1
  have HB3 : Hid (Below w.heap.size w w3) := HB.out.trans (b3.mono HB.out.size)
  have hs3 : w.heap.size + 1 ≤ w3.heap.size := by have := b3.size; omega
  have HU3 := Lib.hid (HU.out.below b3)
  have HV3 := Lib.hid (HV.out.below b3)
  obtain ⟨k, a3, cap3, er, he, hr3, hc3, hm3⟩ : ∃ (k : Nat) (a3 : Option Addr) (cap3 : Nat) (er : Int), e = .returned (.tuple #[.int .u8 k, .slice a3 (bO s).length cap3, .int .i64 er]) ∧ Reads w3 a3 (bO s).length (bO s) ∧ (bO s).length ≤ cap3 ∧ cap3 ≤ maxLen := by
    rcases h3 with ⟨ho, a, cap, he, hr, hc, hm⟩ | ⟨ho, he⟩
    · have e : bO s = bodyL s := if_pos ho
      rw [e]
      exact ⟨_, a, cap, _, he, hr, hc, hm⟩
    · have e : bO s = [] := if_neg (by rw [ho]; decide)
      rw [e]
      exact ⟨0, none, 0, 21, he, ⟨rfl, by intro x hx; simp at hx, .inl rfl⟩, Nat.le_refl _, by unfold maxLen; omega⟩
  subst he
  obtain ⟨g', hge, hgn⟩ := HV3.out
  obtain rfl : gr = g' := by simpa using hge
  have HPR := Lib.hid (preadUse_is _ hgn hr3 hc3 hm3 (by omega))
  clear h3 b3 n1 HB HC hw1 hs1 HU HV hge hgn hr3
  go_wp2_with fail
  refine HPR.out.mono ?_
  rintro e w4 ⟨b4, v4, rfl, ho4⟩
  have HX : Hid (readUse s = if (writeUse (itemsR zeroUse (bO s))).2 = 0 ∧ (writeUse (itemsR zeroUse (bO s))).1 = s then (itemsR zeroUse (bO s), 0) else ([], 21)) := rfl
  obtain ⟨x, hx⟩ : ∃ x, itemsR zeroUse (bO s) = x := ⟨_, rfl⟩
  rw [hx] at HX ho4 HITS
  obtain ⟨a4, c4, rfl, hr4, _⟩ := owned_list ho4
  have n14 := (b4.block w.heap.size (by omega)).trans n1''
  have HB4 : Hid (Below w.heap.size w w4) := HB3.out.trans (b4.mono HB3.out.size)
  have hs4 : w.heap.size + 1 ≤ w4.heap.size := Nat.le_trans hs3 b4.size
  have HO4 := Lib.hid (ho4.less (show w.heap.size ≤ w3.heap.size by omega))
  have HW := Lib.hid (writeUse_is x HITS.out a4 c4 hr4 vu _ (HU3.out.below b4) (HV3.out.below b4))
  have hmk := writeUse_length HITS.out
  obtain ⟨mk, hmke⟩ : ∃ mk, (writeUse x).1 = mk := ⟨_, rfl⟩
  obtain ⟨er2, here⟩ : ∃ er2, (writeUse x).2 = er2 := ⟨_, rfl⟩
  rw [hmke, here] at HX HW
  rw [hmke] at hmk
  obtain ⟨nx, hnx⟩ : ∃ nx, x.length = nx := ⟨_, rfl⟩
  have HNX := Lib.hid hnx
  rw [hnx] at HW HO4 ⊢
  clear n1'' HB3 hs3 b4 ho4 hr4 hx hc3 hm3 HPR HU3 HV3 hmke here hnx
  go_wp2_with fail
  refine HW.out.mono ?_
  rintro e w6 ⟨rfl, b6⟩
  have n16 := (b6.block w.heap.size (by omega)).trans n14
  have HB6 : Hid (Below w.heap.size w w6) := HB4.out.trans (b6.mono HB4.out.size)
  have hs6 : w.heap.size + 1 ≤ w6.heap.size := by have := b6.size; omega
  have ho6 := HO4.out.below b6
  have nn := heap_alloc_new w6 (.cells (cells noughts) 31)
  have b7 := below_box w6 (.cells (cells mk) 31)
  have n7 := heap_alloc_new w6 (.cells (cells mk) 31)
  have e7 := World.setRow_alloc_new w6 (cells noughts) (cells mk) 31
  have HO7 := Lib.hid (ho6.below b7)
  obtain ⟨w7, hw7⟩ : ∃ w7, w6.alloc (.cells (cells mk) 31) = w7 := ⟨_, rfl⟩
  rw [hw7] at b7 n7 e7 HO7
  have n17 := (b7.block w.heap.size (by omega)).trans n16
  have HB7 : Hid (Below w.heap.size w w7) := HB6.out.trans (b7.mono HB6.out.size)
  obtain ⟨m2, hm2⟩ : ∃ m2, w6.heap.size = m2 := ⟨_, rfl⟩
  rw [hm2] at n7 e7 nn hs6
  have HC7 := Lib.hid (block_cells hmk n7)
  have HCs := Lib.hid (block_cells hs n17)
  have hneq := run_neq_sector mk s hmk hs
  clear n16 HB6 b6 b7 hw7 n14 HB4 hs4 HO4 ho6 HW n7 n17
  by_cases her : er2 = 0
  · subst her
    by_cases hms : mk = s
    · have hfin : readUse s = (x, 0) := HX.out.trans (if_pos ⟨rfl, hms⟩)
      have HF := Lib.hid hfin
      rw [decide_eq_true hms, Bool.not_true] at hneq
      clear hfin hms
      go_wp2_with (first
        | (refine wpList_store_sector rfl _ _ rfl m2 mk rfl rfl hmk _ _ nn rfl ?_; rw [e7])
        | refine wpList_load_sector_want rfl _ rfl m2 0 mk rfl hmk HC7.out ?_
        | refine wpList_load_sector_want rfl _ rfl w.heap.size 0 s rfl hs HCs.out ?_)
      go_ret2
      unfold ReadsPost
      rw [HF.out]
      refine ⟨HB7.out, a4, c4, ?_, ?_⟩
      · show _ = Ending.returned (.tuple #[.slice a4 x.length c4, .int .i64 0])
        rw [HNX.out]; rfl
      · show OwnsR' _ _ _ _ (.slice a4 x.length c4) (x.map rowV)
        rw [HNX.out]; exact HO7.out
    · have hfin : readUse s = ([], 21) := HX.out.trans (if_neg (fun h => hms h.2))
      have HF := Lib.hid hfin
      rw [decide_eq_false hms, Bool.not_false] at hneq
      clear hfin hms
      go_wp2_with (first
        | (refine wpList_store_sector rfl _ _ rfl m2 mk rfl rfl hmk _ _ nn rfl ?_; rw [e7])
        | refine wpList_load_sector_want rfl _ rfl m2 0 mk rfl hmk HC7.out ?_
        | refine wpList_load_sector_want rfl _ rfl w.heap.size 0 s rfl hs HCs.out ?_)
      go_ret2
      unfold ReadsPost
      rw [HF.out]
      exact ⟨HB7.out, none, 0, rfl, OwnsR'.nil _ _ _ _⟩
  · have hne0 : (er2 == 0) = false := by simpa using her
    have hfin : readUse s = ([], 21) := HX.out.trans (if_neg (fun h => her h.1))
    have HF := Lib.hid hfin
    clear hfin
    go_wp2_with (first
      | (refine wpList_store_sector rfl _ _ rfl m2 mk rfl rfl hmk _ _ nn rfl ?_; rw [e7])
      | refine wpList_load_sector_want rfl _ rfl m2 0 mk rfl hmk HC7.out ?_
      | refine wpList_load_sector_want rfl _ rfl w.heap.size 0 s rfl hs HCs.out ?_)
    go_ret2
    unfold ReadsPost
    rw [HF.out]
    exact ⟨HB7.out, none, 0, rfl, OwnsR'.nil _ _ _ _⟩
end Go.Proofs.YtgakidimipipeaaGreat

namespace Go.Proofs.YtgakidimipipeaaGreat
open Go.RowKit Go.Sort
set_option linter.unusedVariables false
set_option linter.unusedSimpArgs false
set_option maxRecDepth 100000

set_option maxHeartbeats 3200000 in
theorem readUses_is {w : World} (s : List Nat) (hs : s.length = 128) (hb : Bytes s) :
    Calls Tryz.prog 21 #[.agg (cells s)] w (ReadsPost 127 3 w (readUse s)) := by
  have b1 := below_box w (.cells (cells s) 31)
  have n1 := heap_alloc_new w (.cells (cells s) 31)
  obtain ⟨w1, hw1⟩ : ∃ w1, w.alloc (.cells (cells s) 31) = w1 := ⟨_, rfl⟩
  have hs1 : w1.heap.size = w.heap.size + 1 := by rw [← hw1]; simp
  rw [hw1] at b1 n1
  have HR : Hid (w1.rangeAt w.heap.size 0 (s.map byteV)) := Lib.hid (by have := row_range n1; simpa [cells] using this)
  have hgl : w.heap.size < w1.heap.size := by omega
  have hu := row_sector
  have hsz : (Tryz.prog.info? 31).map (·.size) = some (s.map byteV).length := by rw [size_sector, List.length_map, hs]
  have hl8 : (s.map byteV).length = 128 := by rw [List.length_map, hs]
  have hone := byteV_oneCell s
  have HB := Lib.hid b1
  have HREAD := Lib.hid (fun (W : World) (hW : Below w1.heap.size w1 W) (vu vr : Value) (hu : IsUpUse W vu) (hv : IsRestUse W vr) => (readUse_is s hs hb vu vr hu hv).mono fun e w' k => And.intro (hW.trans (k.1.mono hW.size)) (readsPost_up (below_next b1 hW) k))
  obtain ⟨⟨rl, re⟩, hre⟩ : ∃ r, readUse s = r := ⟨_, rfl⟩
  obtain ⟨rn, hrn⟩ : ∃ n, rl.length = n := ⟨_, rfl⟩
  have HRN := Lib.hid hrn
  rw [hre] at HREAD ⊢
  have H1 := (Below.refl w1.heap.size w1).drew
  clear b1 n1 hre hrn
  go_enter Tryz.func21, Tryz.ntmps21
  go_wp2_with fail
  go_region_held3 (fun W => W.rangeAt w.heap.size 0 (s.map byteV) ∧ Below w1.heap.size w1 W) (first | exact ⟨range_bel H1 hgl HR.out, H1⟩ | exact ⟨range_bel k5 hgl HR.out, k5⟩ | exact ⟨range_bel k6 hgl HR.out, k6⟩ | exact ⟨range_bel k7 hgl HR.out, k7⟩)
    ((first
      | (go_at_call 53; refine (uptoUse_is _).mono ?_; rintro e w5 ⟨vu, rfl, hU, b5⟩; first | (have k5 := k6.trans (b5.mono k6.size); have hUr := hU; have hVr := hV.below b5) | (have k5 := H1.trans (b5.mono H1.size)); obtain ⟨u1, u2, rfl, _, _⟩ := id hU)
      | (go_at_call 55; refine (rest0Use_is _).mono ?_; rintro e w6 ⟨vr, rfl, hV, b6⟩; first | (have k6 := k5.trans (b6.mono k5.size); have hUr := hU.below b6; have hVr := hV) | (have k6 := H1.trans (b6.mono H1.size)); obtain ⟨u3, rfl, _⟩ := id hV)
      | (go_at_call 52; refine (HREAD.out _ (by first | exact k6 | exact k5) _ _ hUr hVr).mono ?_; rintro e w7 ⟨b7, q7⟩; have k7 := b7; have HQ := Lib.hid q7; obtain ⟨_, a7, c7, rfl, o7⟩ := id q7; clear q7 o7; rw [show ((rl, re) : List (List FldD) × Int).1.length = rn from HRN.out])))
  all_goals
    go_wp2
    go_ret2
    have hq := HQ.out
    rw [show ((rl, re) : List (List FldD) × Int).1.length = rn from HRN.out] at hq
    exact hq
end Go.Proofs.YtgakidimipipeaaGreat
