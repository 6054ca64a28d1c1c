/- A write of the disk's cache comes to the disk, by its walk. -/
import Derived.Test.YthainmbapikjiaaGhfibfihl
import Derived.Deep.RegionHeld3
import Derived.Deep.WholeRow
namespace Go.Proofs.Ythainmbapikjiaa
open Go.RowKit Go.Sort
set_option linter.unusedVariables false
set_option maxRecDepth 100000

/-- Cells stored one behind the other, in a block that is known whole. -/
def spliceV (cs : Array Value) (o : Nat) (vs : List Value) : Array Value := (cs.toList.take o ++ vs ++ cs.toList.drop (o + vs.length)).toArray
theorem setCells_heap (b : Nat) (t : TypeId) : ∀ (vs : List Value) (o : Nat) (w : World) (cs : Array Value), w.heap[b]? = some (.cells cs t (0, 0)) → o + vs.length ≤ cs.size →
    (w.setCells b o vs).heap[b]? = some (.cells (spliceV cs o vs) t (0, 0))
  | [], o, w, cs, h, hs => by
    simp only [World.setCells]
    rw [h]
    congr 2
    simp [spliceV]
  | v :: vs, o, w, cs, h, hs => by
    simp only [List.length_cons] at hs
    have h1 := heap_setCell_same w b o _ _ v h
    have ih := setCells_heap b t vs (o + 1) (w.setCell ⟨b, o, none⟩ v) (cs.setIfInBounds o v) h1 (by simp; omega)
    simp only [World.setCells]
    rw [ih]
    congr 2
    unfold spliceV
    congr 1
    rw [Array.toList_setIfInBounds]
    have e1 : (cs.toList.set o v).take (o + 1) = cs.toList.take o ++ [v] := by
      rw [List.take_succ_eq_append_getElem (by simp; omega), List.take_set, List.set_eq_of_length_le (by simp; omega)]
      simp
    have e2 : (cs.toList.set o v).drop (o + 1 + vs.length) = cs.toList.drop (o + (vs.length + 1)) := by
      rw [List.drop_set_of_lt (by omega)]
      congr 1
      omega
    rw [e1, e2]
    simp
theorem setCells_other (b k : Nat) (hk : k ≠ b) : ∀ (vs : List Value) (o : Nat) (w : World), (w.setCells b o vs).heap[k]? = w.heap[k]?
  | [], o, w => rfl
  | v :: vs, o, w => by
    simp only [World.setCells]
    rw [setCells_other b k hk vs (o + 1)]
    exact Below.heap_setCell _ _ _ _ hk
theorem setCells_cell {b k : Nat} (hk : k ≠ b) (o off : Nat) (vs : List Value) (w : World) : (w.setCells b o vs).cell? ⟨k, off, none⟩ = w.cell? ⟨k, off, none⟩ :=
  World.cell?_of_block (w := w) (a := ⟨k, off, none⟩) (setCells_other b k hk vs o w)
theorem only_drew (g : Nat) (w : World) : Only g w w.drew := ⟨rfl, rfl, rfl, rfl, fun _ _ => rfl⟩
theorem setCells_only (g : Nat) : ∀ (vs : List Value) (o : Nat) (w : World), Only g w (w.setCells g o vs)
  | [], o, w => Only.refl g w
  | v :: vs, o, w => by
    simp only [World.setCells]
    exact ((Only.refl g w).setCell o v).trans (setCells_only g vs (o + 1) _)

theorem flat_splice {α : Type} (f : α → List Value) (n : Nat) : ∀ (l : List α), (∀ x ∈ l, (f x).length = n) → ∀ (i : Nat) (y : α), i < l.length → (f y).length = n →
    (l.flatMap f).take (i * n) ++ f y ++ (l.flatMap f).drop (i * n + n) = (l.set i y).flatMap f
  | [], _, i, y, hi, _ => by simp at hi
  | x :: l, h, i, y, hi, hy => by
    have hx := h x (by simp)
    cases i with
    | zero =>
      simp only [List.flatMap_cons, Nat.zero_mul, List.take_zero, List.nil_append, Nat.zero_add, List.set_cons_zero]
      rw [← hx, List.drop_left']
      rfl
    | succ i =>
      have ih := flat_splice f n l (fun z hz => h z (by simp [hz])) i y (by simpa using hi) hy
      simp only [List.flatMap_cons, List.set_cons_succ]
      rw [← ih]
      have e0 : (i + 1) * n = n + i * n := by rw [Nat.add_mul, Nat.one_mul, Nat.add_comm]
      generalize l.flatMap f = R at *
      rw [e0]
      have t1 : (f x ++ R).take (n + i * n) = f x ++ R.take (i * n) := by
        rw [List.take_append, List.take_of_length_le (by omega), hx, Nat.add_sub_cancel_left]
      have t2 : (f x ++ R).drop (n + i * n + n) = R.drop (i * n + n) := by
        rw [List.drop_append, List.drop_of_length_le (by omega), hx, List.nil_append]
        congr 1
        omega
      rw [t1, t2]
      simp [List.append_assoc]
theorem flat_length {α : Type} (f : α → List Value) (n : Nat) : ∀ (l : List α), (∀ x ∈ l, (f x).length = n) → (l.flatMap f).length = l.length * n
  | [], _ => by simp
  | x :: l, h => by
    simp only [List.flatMap_cons, List.length_append, List.length_cons]
    rw [h x (by simp), flat_length f n l (fun z hz => h z (by simp [hz])), Nat.add_mul, Nat.one_mul, Nat.add_comm]
theorem flat_at {α : Type} (f : α → List Value) (n : Nat) : ∀ (l : List α), (∀ x ∈ l, (f x).length = n) → ∀ (i : Nat) (y : α), l[i]? = some y → ∀ j u, (f y)[j]? = some u → (l.flatMap f)[i * n + j]? = some u
  | [], _, i, y, hi => by simp at hi
  | x :: l, h, i, y, hi => by
    intro j u hu
    have hx := h x (by simp)
    cases i with
    | zero =>
      simp at hi
      subst hi
      simp only [List.flatMap_cons, Nat.zero_mul, Nat.zero_add]
      rw [List.getElem?_append_left (List.getElem?_eq_some_iff.1 hu).1]
      exact hu
    | succ i =>
      simp only [List.flatMap_cons]
      have e0 : (i + 1) * n = n + i * n := by rw [Nat.add_mul, Nat.one_mul, Nat.add_comm]
      rw [List.getElem?_append_right (by omega), hx, show (i + 1) * n + j - n = i * n + j by omega]
      exact flat_at f n l (fun z hz => h z (by simp [hz])) i y (by simpa using hi) j u hu

theorem secV_one (l : List (List Nat)) : ∀ u ∈ secV l, u.oneCell' = true := by
  intro u hu
  simp only [secV, List.mem_flatMap] at hu
  obtain ⟨s, _, hs⟩ := hu
  exact byteV_oneCell s u hs
theorem wrV_length {p : Nat × List Nat} (h : p.2.length = 128) : (wrV p).length = 129 := by simp [wrV, h]
theorem DiskD.ok.sec {D : DiskD} (h : D.ok) : ∀ s ∈ D.secs, (s.map byteV).length = 128 := fun s hs => by rw [List.length_map]; exact (h.1 s hs).1
theorem DiskD.ok.wr {D : DiskD} (h : D.ok) : ∀ p ∈ D.cache, (wrV p).length = 129 := fun p hp => wrV_length (h.2.1 p hp).2.1
theorem DiskD.ok.secs_size {D : DiskD} (h : D.ok) : (secV D.secs).length = D.secs.length * 128 := flat_length _ 128 _ h.sec

/-- What the walk is told of the cache's write number i. -/
theorem cache_at {B : Nat} {w : World} {g gs : Nat} {cv : Value} {D : DiskD} (h : IsDisk B w g gs cv D) {i : Nat} {p : Nat × List Nat} (hp : D.cache[i]? = some p) :
    ∃ gc cap, cv = .slice (some ⟨gc, 0, none⟩) D.cache.length cap ∧ D.cache.length ≤ cap ∧ cap ≤ maxLen ∧ B ≤ gc ∧ gc < w.heap.size ∧ gc ≠ gs ∧ gc ≠ g ∧ w.cell? ⟨gc, i * 129, none⟩ = some (.int .i64 p.1) ∧ w.rangeAt gc (i * 129 + 1) (p.2.map byteV) := by
  obtain ⟨h1, h2, ⟨h3, h4⟩, h5, _, _⟩ := h
  have hi : i < D.cache.length := (List.getElem?_eq_some_iff.1 hp).1
  rcases h4 with ⟨_, hn⟩ | ⟨gc, cap, cur, rfl, hB, hg, hc, hm, hs, ht⟩
  · omega
  · have key : ∀ j u, (wrV p)[j]? = some u → w.cell? ⟨gc, i * 129 + j, none⟩ = some u := fun j u hu => by
      have hv := flat_at wrV 129 D.cache h5.wr i p hp j u hu
      have hj : j < 129 := by have := (List.getElem?_eq_some_iff.1 hu).1; rw [wrV_length (h5.2.1 p (List.mem_of_getElem? hp)).2.1] at this; exact this
      rw [show D.cache.flatMap wrV = cacheV D.cache from rfl, ← ht, List.getElem?_take, if_pos (by omega)] at hv
      simpa [World.cell?, hg] using hv
    refine ⟨gc, cap, rfl, hc, hm, hB, (Array.getElem?_eq_some_iff.1 hg).1, ?_, ?_, by have := key 0 _ rfl; simpa using this, fun j v hv => ?_⟩
    · rintro rfl; rw [hg] at h2; injection h2 with h2; injection h2 with _ h2; exact absurd h2 (by decide)
    · rintro rfl; rw [hg] at h1; injection h1 with h1; injection h1 with _ h1; exact absurd h1 (by decide)
    · have := key (j + 1) v (by simpa [wrV] using hv)
      rw [Nat.add_assoc, Nat.add_comm 1 j]
      exact this
theorem gs_ne_g {B : Nat} {w : World} {g gs : Nat} {cv : Value} {D : DiskD} (h : IsDisk B w g gs cv D) : gs ≠ g := by
  rintro rfl
  have h1 := h.1
  have h2 := h.2.1
  rw [h1] at h2
  injection h2 with h2
  injection h2 with _ h2
  exact absurd h2 (by decide)

theorem spliceV_append (A J vs : List Value) (o : Nat) (h : o + vs.length ≤ A.length) : spliceV (A ++ J).toArray o vs = ((A.take o ++ vs ++ A.drop (o + vs.length)) ++ J).toArray := by
  unfold spliceV
  congr 1
  show (A ++ J).take o ++ vs ++ (A ++ J).drop (o + vs.length) = _
  rw [List.take_append_of_le_length (by omega), List.drop_append_of_le_length h]
  simp [List.append_assoc]
def settleD (D : DiskD) (i : Nat) : DiskD := match D.cache[i]? with
  | some p => { D with secs := D.secs.set p.1 p.2 }
  | none => D

set_option maxHeartbeats 1600000 in
theorem settle_is {B : Nat} {w : World} {g gs : Nat} {cv : Value} {D : DiskD} (i : Nat) (p : Nat × List Nat) (hp : D.cache[i]? = some p) (h : IsDisk B w g gs cv D) :
    Calls Try.prog 116 #[.pointer (some ⟨g, 0, none⟩), .int .i64 i] w fun e w' => e = .returned (.tuple #[]) ∧ IsDisk B w' g gs cv { D with secs := D.secs.set p.1 p.2 } ∧ Only gs w w' := by
  obtain ⟨gc, cap, rfl, hlc, hcm, hBc, hgl, hne1, hne2, hcell, hrange⟩ := cache_at h hp
  have hgsg := gs_ne_g h
  obtain ⟨c0, c1, c2, c3, c4, c5⟩ := head_facts h.1
  have hi : i < D.cache.length := (List.getElem?_eq_some_iff.1 hp).1
  have hok := h.2.2.2.1
  obtain ⟨hp1, hp2, hp3⟩ := hok.2.1 p (List.mem_of_getElem? hp)
  have hsz := hok.secs_size
  have hnb := hok.2.2.2.1
  have hcb := hok.2.2.2.2.1
  have hth : w.there gs (p.1 * 128) 128 := fun j hj => by
    have hlt : p.1 * 128 + j < (secV D.secs).length := by
      rw [hsz]
      have : (p.1 + 1) * 128 ≤ D.secs.length * 128 := Nat.mul_le_mul_right _ hp1
      omega
    refine ⟨?_, frozen_of_row _ _ _ _ _ h.2.1⟩
    unfold World.cell?
    rw [h.2.1]
    simp only [List.getElem?_toArray]
    rw [List.getElem?_append_left hlt]
    simp [hlt]
  have hu := row_sector
  have hsi : (Try.prog.info? 106).map (·.size) = some (p.2.map byteV).length := by rw [List.length_map, hp2]; exact size_sector
  have hl8 : (p.2.map byteV).length = 128 := by rw [List.length_map]; exact hp2
  have hone : ∀ v ∈ p.2.map byteV, v.oneCell' = true := byteV_oneCell p.2
  have H := Lib.hid h
  have HP := Lib.hid hp
  have HOK := Lib.hid hok
  obtain ⟨pa, ps⟩ := p
  simp only at *
  have hx1 : (0 : Int) ≤ (i : Int) ∧ (i : Int) < (D.cache.length : Int) := by omega
  have hx2 : (0 : Int) ≤ (pa : Int) ∧ (pa : Int) < (D.secs.length : Int) := by omega
  unfold maxLen at hcm
  clear h hp hok hsz c0 c1 c2 c5
  go_enter Try.func116, Try.ntmps116
  go_wp2_with fail
  go_region_held3 (fun w' => w'.cell? ⟨g, 3, none⟩ = some (.slice (some ⟨gs, 0, none⟩) D.secs.length D.room) ∧ w'.cell? ⟨g, 4, none⟩ = some (.slice (some ⟨gc, 0, none⟩) D.cache.length cap) ∧ w'.cell? ⟨gc, i * 129, none⟩ = some (.int .i64 pa) ∧ w'.rangeAt gc (i * 129 + 1) (ps.map byteV) ∧ w'.there gs (pa * 128) 128)
    (first | go_keep_ranges | exact ⟨(setCells_cell (Ne.symm hgsg) _ _ _ w.drew).trans c3, (setCells_cell (Ne.symm hgsg) _ _ _ w.drew).trans c4, (setCells_cell hne1 _ _ _ w.drew).trans hcell, World.rangeAt_setCells_apart (show w.drew.rangeAt gc (i * 129 + 1) (ps.map byteV) from hrange) _ _ _ (.inl hne1), World.there_setCells (show w.drew.there gs (pa * 128) 128 from hth) _ _ _⟩) (fail)
  rename_i hheld
  clear hheld
  go_end0
  refine ⟨rfl, ?_, ?_⟩
  · obtain ⟨k1, k2, k3, k4, k5, k6⟩ := H.out
    have ho : Only gs w (w.drew.setCells gs (pa * 128) (ps.map byteV)) := (only_drew gs w).trans (setCells_only gs (ps.map byteV) (pa * 128) w.drew)
    have hpl : pa * 128 + (ps.map byteV).length ≤ (secV D.secs).length := by
      rw [hl8, HOK.out.secs_size]
      have : (pa + 1) * 128 ≤ D.secs.length * 128 := Nat.mul_le_mul_right _ hp1
      omega
    have hsp : spliceV (secV D.secs ++ D.junk).toArray (pa * 128) (ps.map byteV) = (secV (D.secs.set pa ps) ++ D.junk).toArray := by
      rw [spliceV_append _ _ _ _ hpl]
      unfold secV
      congr 2
      rw [hl8]
      exact flat_splice (fun s => s.map byteV) 128 D.secs HOK.out.sec pa ps hp1 hl8
    refine ⟨?_, ?_, ?_, ?_, k5, k6⟩
    · rw [ho.block g (Ne.symm hgsg)]
      unfold headV at k1 ⊢
      rw [List.length_set]
      exact k1
    · have := setCells_heap gs 106 (ps.map byteV) (pa * 128) w.drew _ k2 (by
        rw [hl8]
        simp only [List.size_toArray]
        rw [List.length_append, HOK.out.secs_size]
        have : (pa + 1) * 128 ≤ D.secs.length * 128 := Nat.mul_le_mul_right _ hp1
        omega)
      rw [this, hsp]
    · obtain ⟨q1, q2⟩ := k3
      refine ⟨q1, ?_⟩
      rcases q2 with q2 | ⟨gc', cap', cur, hv, q3, q4, rest⟩
      · exact .inl q2
      · cases hv
        exact .inr ⟨gc, cap, cur, rfl, q3, by rw [ho.block gc hne1]; exact q4, rest⟩
    · obtain ⟨m1, m2, m3, m4, m5, m6, m7⟩ := k4
      refine ⟨fun s hs => ?_, fun q hq => ?_, ?_, ?_, m5, m6, m7⟩
      · rcases List.mem_or_eq_of_mem_set hs with hs | rfl
        · exact m1 s hs
        · exact ⟨hp2, hp3⟩
      · show q.1 < (D.secs.set pa ps).length ∧ _
        rw [List.length_set]
        exact m2 q hq
      · show 1 ≤ (D.secs.set pa ps).length
        rw [List.length_set]; exact m3
      · show (D.secs.set pa ps).length ≤ 65536
        rw [List.length_set]; exact m4
  · exact (only_drew gs w).trans (setCells_only gs (ps.map byteV) (pa * 128) w.drew)
end Go.Proofs.Ythainmbapikjiaa
