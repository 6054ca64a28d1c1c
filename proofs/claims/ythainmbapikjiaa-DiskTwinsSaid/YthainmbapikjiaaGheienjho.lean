/- A disk's Read: the walk of its caller. -/
import Derived.Test.YthainmbapikjiaaGddpcceid
namespace Go.Proofs.Ythainmbapikjiaa
open Go.RowKit Go.Sort
set_option linter.unusedVariables false
set_option linter.unusedSimpArgs false
set_option maxRecDepth 100000
attribute [local go_sem] Oper.semAt_some

/-- What is read of a cache over what lies on the disk. -/
def readL (c : List (Nat × List Nat)) (at_ : Nat) (s : List Nat) : List Nat := c.foldl (fun s p => if p.1 = at_ then p.2 else s) s
def readS (D : DiskD) (at_ : Int) : List Nat := if refI D at_ ≠ 0 then noughts else readL D.cache at_.toNat (D.secs[at_.toNat]?.getD noughts)
theorem IsDisk.more {B : Nat} {w w' : World} {g gs : Nat} {cv : Value} {D : DiskD} (h : IsDisk B w g gs cv D) (b : Below w.heap.size w w') : IsDisk B w' g gs cv D := by
  obtain ⟨k1, k2, ⟨k3, k4⟩, k5, k6, k7⟩ := h
  have hgl : g < w.heap.size := (Array.getElem?_eq_some_iff.1 k1).1
  have hgsl : gs < w.heap.size := (Array.getElem?_eq_some_iff.1 k2).1
  refine ⟨(b.block g hgl).trans k1, (b.block gs hgsl).trans k2, ⟨k3, ?_⟩, k5, k6, k7⟩
  rcases k4 with h | ⟨gc, cap, cur, e1, e2, e3, e4⟩
  · exact .inl h
  · exact .inr ⟨gc, cap, cur, e1, e2, (b.block gc (Array.getElem?_eq_some_iff.1 e3).1).trans e3, e4⟩

theorem results_two {fn : Func} {p u : Tmp} (h : fn.results = #[.cell p 106, .cell u 47]) (tmps : Array Value) (w : World) (g k : Nat) (l : List Nat) (v : Int) (t : TypeId) (fr : Nat × Nat) (hp : tmps.getD p undef = .pointer (some ⟨g, 0, none⟩)) (hu : tmps.getD u undef = .pointer (some ⟨k, 0, none⟩))
    (hg : w.heap[g]? = some (.cells (cells l) t fr)) (hl : l.length = 128) (hc : w.cell? ⟨k, 0, none⟩ = some (.int .i64 v)) : (results fn tmps).run Try.prog w = .ok (.tuple #[.agg (cells l), .int .i64 v]) w := by
  have h1 := run_loadVar_row w g t 106 (cells l) fr _ hg row_sector rfl (by rw [size_sector, cells_size, hl])
  have h2 : (loadVar 47 ⟨k, 0, none⟩).run Try.prog w = .ok (.int .i64 v) w := by simp [go_sem, hc]
  have hp' : tmps[p]?.getD undef = .pointer (some ⟨g, 0, none⟩) := by simpa using hp
  have hu' : tmps[u]?.getD undef = .pointer (some ⟨k, 0, none⟩) := by simpa using hu
  simp [results, h, hp', hu', asAddr, Sem.run_bind, h1, h2]

/-- The world behind Read's four boxes. -/
def rbox (w : World) (g : Nat) (at_ : Int) : World := (((w.alloc (.cells #[.pointer (some ⟨g, 0, none⟩)] 24)).alloc (.cells #[.int .i64 at_] 3)).alloc (.cells (cells noughts) 106)).alloc (.cells #[.int .i64 0] 47)
theorem rbox_facts (w : World) (g : Nat) (at_ : Int) : Below w.heap.size w (rbox w g at_) ∧ (rbox w g at_).heap.size = w.heap.size + 4 ∧ (rbox w g at_).cell? ⟨w.heap.size, 0, none⟩ = some (.pointer (some ⟨g, 0, none⟩)) ∧ (rbox w g at_).cell? ⟨w.heap.size + 1, 0, none⟩ = some (.int .i64 at_) ∧
    (rbox w g at_).heap[w.heap.size + 1 + 1]? = some (.cells (cells noughts) 106 (0, 0)) ∧ (rbox w g at_).heap[w.heap.size + 1 + 1 + 1]? = some (.cells #[.int .i64 0] 47 (0, 0)) := by
  have b1 := below_box w (.cells #[.pointer (some ⟨g, 0, none⟩)] 24)
  have n1 := heap_alloc_new w (.cells #[.pointer (some ⟨g, 0, none⟩)] 24)
  unfold rbox
  generalize hw1 : w.alloc (.cells #[.pointer (some ⟨g, 0, none⟩)] 24) = w1 at *
  have s1 : w1.heap.size = w.heap.size + 1 := by rw [← hw1]; simp
  have b2 := below_box w1 (.cells #[.int .i64 at_] 3)
  have n2 := heap_alloc_new w1 (.cells #[.int .i64 at_] 3)
  generalize hw2 : w1.alloc (.cells #[.int .i64 at_] 3) = w2 at *
  have s2 : w2.heap.size = w.heap.size + 2 := by rw [← hw2]; simp [s1]
  have b3 := below_box w2 (.cells (cells noughts) 106)
  have n3 := heap_alloc_new w2 (.cells (cells noughts) 106)
  generalize hw3 : w2.alloc (.cells (cells noughts) 106) = w3 at *
  have s3 : w3.heap.size = w.heap.size + 3 := by rw [← hw3]; simp [s2]
  have b4 := below_box w3 (.cells #[.int .i64 0] 47)
  have n4 := heap_alloc_new w3 (.cells #[.int .i64 0] 47)
  generalize hw4 : w3.alloc (.cells #[.int .i64 0] 47) = w4 at *
  have s4 : w4.heap.size = w.heap.size + 4 := by rw [← hw4]; simp [s3]
  have e1 : w4.heap[w.heap.size]? = some (.cells #[.pointer (some ⟨g, 0, none⟩)] 24 (0, 0)) := by
    rw [b4.block _ (by omega), b3.block _ (by omega), b2.block _ (by omega)]; exact n1
  have e2 : w4.heap[w.heap.size + 1]? = some (.cells #[.int .i64 at_] 3 (0, 0)) := by
    rw [b4.block _ (by omega), b3.block _ (by omega), ← s1]; exact n2
  refine ⟨below_next (below_next (below_next b1 b2) b3) b4, s4, by unfold World.cell?; rw [e1]; rfl, by unfold World.cell?; rw [e2]; rfl, ?_, ?_⟩
  · rw [b4.block _ (by omega), show w.heap.size + 1 + 1 = w2.heap.size by omega]; exact n3
  · rw [show w.heap.size + 1 + 1 + 1 = w3.heap.size by omega]; exact n4

/-- What the two boxes of results hold at the end. -/
theorem rdone {n : Nat} {w W : World} {l : List Nat} {v : Int} {old : Array Value} {t : TypeId} {u : Value} (b : Below n w W) (h2 : W.heap[n + 1 + 1]? = some (.cells old 106 (0, 0))) (h3 : W.heap[n + 1 + 1 + 1]? = some (.cells #[u] t (0, 0))) :
    ((W.setRow (n + 1 + 1) (cells l)).cell? ⟨n + 1 + 1 + 1, 0, none⟩ = some u ∧ (W.setRow (n + 1 + 1) (cells l)).frozen? ⟨n + 1 + 1 + 1, 0, none⟩ = false) ∧
    ((W.setRow (n + 1 + 1) (cells l)).setCell ⟨n + 1 + 1 + 1, 0, none⟩ (.int .i64 v)).heap[n + 1 + 1]? = some (.cells (cells l) 106 (0, 0)) ∧
    ((W.setRow (n + 1 + 1) (cells l)).setCell ⟨n + 1 + 1 + 1, 0, none⟩ (.int .i64 v)).cell? ⟨n + 1 + 1 + 1, 0, none⟩ = some (.int .i64 v) ∧
    Below n w ((W.setRow (n + 1 + 1) (cells l)).setCell ⟨n + 1 + 1 + 1, 0, none⟩ (.int .i64 v)) := by
  have e3 : (W.setRow (n + 1 + 1) (cells l)).heap[n + 1 + 1 + 1]? = some (.cells #[u] t (0, 0)) := (setRow_other _ _ _ _ (by omega)).trans h3
  have c3 : (W.setRow (n + 1 + 1) (cells l)).cell? ⟨n + 1 + 1 + 1, 0, none⟩ = some u := by unfold World.cell?; rw [e3]; rfl
  refine ⟨⟨c3, frozen_of_row _ _ _ _ _ e3⟩, ?_, World.cell?_setCell_same' _ _ _ (by rw [c3]; rfl), (below_setRow b (by omega) _).setCell (p := ⟨n + 1 + 1 + 1, 0, none⟩) (by show n ≤ n + 1 + 1 + 1; omega) _⟩
  rw [Below.heap_setCell _ _ _ _ (by show n + 1 + 1 ≠ n + 1 + 1 + 1; omega)]
  exact setRow_heap _ _ _ _ _ _ h2

set_option maxHeartbeats 1600000 in
theorem dread_no {B : Nat} {w : World} {g gs : Nat} {cv : Value} {D : DiskD} (h : IsDisk B w g gs cv D) (at_ : Int) (h0 : refI D at_ ≠ 0) :
    Calls Try.prog 53 #[.pointer (some ⟨g, 0, none⟩), .int .i64 at_] w fun e w' => e = .returned (.tuple #[.agg (cells (readS D at_)), .int .i64 (refI D at_)]) ∧ Below w.heap.size w w' := by
  have hs : readS D at_ = noughts := if_pos h0
  rw [hs]
  obtain ⟨b0, s0, r0, r1, r2, r3⟩ := rbox_facts w g at_
  have HR := Lib.hid (show ∃ k, refI D at_ = k ∧ k ≠ 0 from ⟨_, rfl, h0⟩)
  have HD := Lib.hid (h.more b0)
  clear h h0 hs
  have hz := zero_sector
  have hbld := build_sector
  go_enter Try.func53, Try.ntmps53
  go_wp2_with fail
  change Calls Try.prog _ _ (rbox w g at_) _
  refine (drefusal_is at_ HD.out).mono ?_
  rintro e w' ⟨rfl, rfl⟩
  obtain ⟨k, hk, hk0⟩ := HR.out
  rw [hk]
  generalize rbox w g at_ = W at *
  have hb0 : ((k : Int) == 0) = false := by simpa using hk0
  obtain ⟨⟨d1, d2⟩, d3, d4, d5⟩ := rdone (l := noughts) (v := k) b0 r2 r3
  go_wp2_with (refine wpList_store_sector rfl _ _ rfl (w.heap.size + 1 + 1) noughts (by go_simp) (by go_simp) rfl _ _ r2 rfl ?_)
  refine bodyPost_ret (results_two rfl _ _ (w.heap.size + 1 + 1) (w.heap.size + 1 + 1 + 1) noughts k _ _ rfl rfl d3 rfl d4) rfl ?_
  exact ⟨by rw [hk], d5⟩

theorem readL_snoc (c : List (Nat × List Nat)) (p : Nat × List Nat) (a : Nat) (s : List Nat) : readL (c ++ [p]) a s = if p.1 = a then p.2 else readL c a s := by simp [readL]
theorem readL_none : ∀ (c : List (Nat × List Nat)) (a : Nat) (s : List Nat), (∀ i, i < c.length → (c[i]?.getD (0, [])).1 ≠ a) → readL c a s = s
  | [], _, _, _ => rfl
  | p :: c, a, s, h => by
    have h0 : p.1 ≠ a := h 0 (by simp)
    show readL c a (if p.1 = a then p.2 else s) = s
    rw [if_neg h0]
    exact readL_none c a s fun i hi => h (i + 1) (by simp; omega)
theorem readL_last (c : List (Nat × List Nat)) (a : Nat) (s : List Nat) (k : Nat) (hk : k < c.length) (he : (c[k]?.getD (0, [])).1 = a) (h : ∀ i, k < i → i < c.length → (c[i]?.getD (0, [])).1 ≠ a) : readL c a s = (c[k]?.getD (0, [])).2 := by
  have e : c = c.take (k + 1) ++ c.drop (k + 1) := (List.take_append_drop _ _).symm
  have h1 : readL c a s = readL (c.drop (k + 1)) a (readL (c.take (k + 1)) a s) := by
    unfold readL
    rw [← List.foldl_append, List.take_append_drop]
  rw [h1, readL_none]
  · have e2 : c.take (k + 1) = c.take k ++ [c[k]] := by rw [List.take_add_one, List.getElem?_eq_getElem hk]; rfl
    rw [e2, readL_snoc]
    rw [List.getElem?_eq_getElem hk] at he ⊢
    exact if_pos he
  · intro i hi
    rw [List.length_drop] at hi
    rw [List.getElem?_drop]
    exact h _ (by omega) (by omega)

theorem CacheIn.wider {n m : Nat} {W : World} {cv : Value} {zs : List (Nat × List Nat)} (h : CacheIn n W cv zs) (hm : n ≤ m) : CacheIn m W cv zs := by
  rcases h with h | ⟨gc, cap, e, hb, h⟩
  · exact .inl h
  · exact .inr ⟨gc, cap, e, by omega, h⟩
def ReadI (D : DiskD) (w : World) (g n : Nat) (pre : List (Spot D.cache.length)) (W : World) : Prop :=
  ((∀ x ∈ pre, (D.cache[x.1]?.getD (0, [])).1 ≠ n) ∧ W.cell? ⟨w.heap.size, 0, none⟩ = some (.pointer (some ⟨g, 0, none⟩)) ∧ W.cell? ⟨w.heap.size + 1, 0, none⟩ = some (.int .i64 n) ∧ W.heap[w.heap.size + 1 + 1]? = some (.cells (cells noughts) 106 (0, 0)) ∧ W.heap[w.heap.size + 1 + 1 + 1]? = some (.cells #[.int .i64 0] 47 (0, 0))) ∧ Below w.heap.size w W
def ReadX (D : DiskD) (w : World) (g n : Nat) (c : Code) (pre : List (Spot D.cache.length)) (W : World) : Prop :=
  (c = .ret ∧ ∃ ini last, pre = ini ++ [last] ∧ (∀ x ∈ ini, (D.cache[x.1]?.getD (0, [])).1 ≠ n) ∧ (D.cache[last.1]?.getD (0, [])).1 = n ∧ W.heap[w.heap.size + 1 + 1]? = some (.cells (cells (D.cache[last.1]?.getD (0, [])).2) 106 (0, 0)) ∧ W.cell? ⟨w.heap.size + 1 + 1 + 1, 0, none⟩ = some (.int .i64 0)) ∧ Below w.heap.size w W

theorem wpIn_any_post {F : Fence} {n : Nat} {P : Program} {c : Code} {Q : Exit → Act → World → Prop} {a : Act} {w : World} (a' : Act) (w' : World) (h : ∀ Q' : Exit → Act → World → Prop, Q' .normal a' w' → c.wpIn F n P Q' a w) (k : Q .normal a' w') : c.wpIn F n P Q a w := h Q k

theorem grown_row (w : World) (g : Nat) (cs : Array Value) : w.grownBy (w.setRow g cs) (some g) :=
  ⟨rfl, rfl, rfl, by simp, fun k _ hk => setRow_other w g k cs (fun e => hk (by rw [e]))⟩
theorem rdone2 {n : Nat} {w W : World} {l : List Nat} {v : Int} {t : TypeId} {u : Value} (hl : l.length = 128) (b : Below n w W) (h2 : W.heap[n + 1 + 1]? = some (.cells (cells noughts) 106 (0, 0))) (h3 : W.heap[n + 1 + 1 + 1]? = some (.cells #[u] t (0, 0))) :
    ((W.setCells (n + 1 + 1) 0 (l.map byteV)).setCell ⟨n + 1 + 1 + 1, 0, none⟩ (.int .i64 v)).heap[n + 1 + 1]? = some (.cells (cells l) 106 (0, 0)) ∧
    ((W.setCells (n + 1 + 1) 0 (l.map byteV)).setCell ⟨n + 1 + 1 + 1, 0, none⟩ (.int .i64 v)).cell? ⟨n + 1 + 1 + 1, 0, none⟩ = some (.int .i64 v) ∧
    Below n w ((W.setCells (n + 1 + 1) 0 (l.map byteV)).setCell ⟨n + 1 + 1 + 1, 0, none⟩ (.int .i64 v)) := by
  have hn : noughts.length = 128 := rfl
  have e2 : (W.setCells (n + 1 + 1) 0 (l.map byteV)).heap[n + 1 + 1]? = some (.cells (cells l) 106 (0, 0)) := by
    rw [setCells_heap (n + 1 + 1) _ (l.map byteV) 0 W _ h2 (by simp [hl, cells_size, hn])]
    congr 2
    unfold spliceV cells
    simp [hl, hn]
  have e3 : (W.setCells (n + 1 + 1) 0 (l.map byteV)).heap[n + 1 + 1 + 1]? = some (.cells #[u] t (0, 0)) := (setCells_other (n + 1 + 1) (n + 1 + 1 + 1) (by omega) _ _ _).trans h3
  have c3 : (W.setCells (n + 1 + 1) 0 (l.map byteV)).cell? ⟨n + 1 + 1 + 1, 0, none⟩ = some u := by unfold World.cell?; rw [e3]; rfl
  have ho := setCells_only (n + 1 + 1) (l.map byteV) 0 W
  refine ⟨?_, World.cell?_setCell_same' _ _ _ (by rw [c3]; rfl), ?_⟩
  · rw [Below.heap_setCell _ _ _ _ (by show n + 1 + 1 ≠ n + 1 + 1 + 1; omega)]
    exact e2
  · have hb : Below n w (W.setCells (n + 1 + 1) 0 (l.map byteV)) := b.trans ⟨ho.os, ho.tape, ho.output, by rw [ho.size]; exact Nat.le_refl _, fun k hk => ho.block k (by omega)⟩
    exact hb.setCell (p := ⟨n + 1 + 1 + 1, 0, none⟩) (by show n ≤ n + 1 + 1 + 1; omega) _
theorem downs_mem {n k i : Nat} (hk : k ≤ n) : i ∈ downs n k ↔ n - k ≤ i ∧ i < n := by
  unfold downs
  simp only [List.mem_map, List.mem_range]
  constructor
  · rintro ⟨j, hj, rfl⟩; omega
  · rintro ⟨h1, h2⟩; exact ⟨n - 1 - i, by omega, by omega⟩

/-- What the last region of Read reads. -/
def DoneS (D : DiskD) (h g gs n : Nat) (s : List Nat) (W : World) : Prop :=
  W.cell? ⟨h, 0, none⟩ = some (.pointer (some ⟨g, 0, none⟩)) ∧ W.cell? ⟨h + 1, 0, none⟩ = some (.int .i64 n) ∧ W.cell? ⟨g, 3, none⟩ = some (.slice (some ⟨gs, 0, none⟩) D.secs.length D.room) ∧ W.rangeAt gs (n * 128) (s.map byteV) ∧
  W.there (h + 1 + 1) 0 128 ∧ W.cell? ⟨h + 1 + 1 + 1, 0, none⟩ = some (.int .i64 0) ∧ W.frozen? ⟨h + 1 + 1 + 1, 0, none⟩ = false
theorem doneS_row {D : DiskD} {h g gs n : Nat} {s : List Nat} {W : World} (k : DoneS D h g gs n s W) (hg : g < h) (hgs : gs < h) (l : List Value) : DoneS D h g gs n s (W.setCells (h + 1 + 1) 0 l) := by
  obtain ⟨k0, k1, k2, k3, k4, k5, k6⟩ := k
  refine ⟨(setCells_cell (by omega) _ _ _ W).trans k0, (setCells_cell (by omega) _ _ _ W).trans k1, (setCells_cell (by omega) _ _ _ W).trans k2, World.rangeAt_setCells_apart k3 _ _ _ (.inl (by omega)), World.there_setCells k4 _ _ _, (setCells_cell (by omega) _ _ _ W).trans k5, ?_⟩
  exact (World.frozen?_of_block (a := ⟨h + 1 + 1 + 1, 0, none⟩) (setCells_other (h + 1 + 1) (h + 1 + 1 + 1) (by omega) l 0 W)).trans k6
theorem doneS_cell {D : DiskD} {h g gs n : Nat} {s : List Nat} {W : World} (k : DoneS D h g gs n s W) (hg : g < h) (hgs : gs < h) : DoneS D h g gs n s (W.setCell ⟨h + 1 + 1 + 1, 0, none⟩ (.int .i64 0)) := by
  obtain ⟨k0, k1, k2, k3, k4, k5, k6⟩ := k
  have ho : ∀ b o, b ≠ h + 1 + 1 + 1 → (W.setCell ⟨h + 1 + 1 + 1, 0, none⟩ (.int .i64 0)).cell? ⟨b, o, none⟩ = W.cell? ⟨b, o, none⟩ := fun b o hb => World.cell?_of_block (a := ⟨b, o, none⟩) (Below.heap_setCell _ _ _ _ hb)
  refine ⟨(ho _ _ (by omega)).trans k0, (ho _ _ (by omega)).trans k1, (ho _ _ (by omega)).trans k2, fun j v hv => (ho _ _ (by omega)).trans (k3 j v hv), fun j hj => ?_, World.cell?_setCell_same' _ _ _ (by rw [k5]; rfl), by rw [World.frozen?_setCell]; exact k6⟩
  obtain ⟨a1, a2⟩ := k4 j hj
  exact ⟨by rw [ho _ _ (by omega)]; exact a1, by rw [World.frozen?_setCell]; exact a2⟩

set_option maxHeartbeats 1600000 in
theorem dread_yes {B : Nat} {w : World} {g gs : Nat} {cv : Value} {D : DiskD} (h : IsDisk B w g gs cv D) (at_ : Int) (h0 : refI D at_ = 0) :
    Calls Try.prog 53 #[.pointer (some ⟨g, 0, none⟩), .int .i64 at_] w fun e w' => e = .returned (.tuple #[.agg (cells (readS D at_)), .int .i64 (refI D at_)]) ∧ Below w.heap.size w w' := by
  obtain ⟨⟨ha1, ha2⟩, hdead⟩ := refI_zero h0
  obtain ⟨n, rfl⟩ := Int.eq_ofNat_of_zero_le ha1
  have hs : readS D n = readL D.cache n (D.secs[n]?.getD noughts) := by unfold readS; rw [if_neg (by simp [h0])]; rfl
  rw [hs, h0]
  obtain ⟨b0, s0, r0, r1, r2, r3⟩ := rbox_facts w g n
  have hcv := own_slice h.2.2.1
  have hgl : g < w.heap.size := (Array.getElem?_eq_some_iff.1 h.1).1
  have hci := cache_in h
  have hlen : D.cache.length ≤ 1000000 := h.2.2.2.1.2.2.2.2.1
  have hzs : ∀ p ∈ D.cache, p.2.length = 128 := fun p hp => (h.2.2.2.1.2.1 p hp).2.1
  have HR := Lib.hid h0
  have HD := Lib.hid (h.more b0)
  have HH := Lib.hid h
  clear h h0 hs hdead
  have hz := zero_sector
  have hbld := build_sector
  refine (callsIn_wide (n := 5)).1 ?_
  refine callsIn_of_wp_marks Try.func53 rfl trivial ?_ rfl
  simp only [Try.ntmps53, List.size_toArray, List.length_cons, List.length_nil, Nat.reduceAdd, Nat.reduceSub, Array.replicate_succ, Array.replicate_zero, List.push_toArray, List.append_toArray, List.nil_append, List.cons_append]
  gi_wp2_with fail
  refine ⟨trivial, ?_⟩
  change CallsIn _ _ Try.prog _ _ (rbox w g n) _
  refine (callsIn_wide.2 (drefusal_is n HD.out)).mono ?_
  rintro e w' ⟨rfl, rfl⟩
  rw [HR.out]
  have hd := HD.out
  obtain ⟨c0, c1, c2, c3, c4, c5⟩ := head_facts hd.1
  generalize rbox w g n = W at *
  gi_wp2_with fail
  refine ⟨trivial, ?_⟩
  refine (back_in Fence.wide _ trivial rfl cv hcv W).mono ?_
  rintro e w1 ⟨rfl, rfl⟩
  gi_wp2_with fail
  have bN := below_box W (.cells #[cv] 124)
  have nN := heap_alloc_new W (.cells #[cv] 124)
  have cN : (W.alloc (.cells #[cv] 124)).cell? ⟨w.heap.size + 4, 0, none⟩ = some cv := by rw [← s0]; unfold World.cell?; rw [nN]; rfl
  obtain ⟨W1, hW1⟩ : ∃ W1, W.alloc (.cells #[cv] 124) = W1 := ⟨_, rfl⟩
  rw [hW1] at cN bN nN ⊢
  have s1 : W1.heap.size = w.heap.size + 5 := by rw [← hW1]; simp [s0]
  have bB : Below w.heap.size w W1 := below_next b0 bN
  have q0 := (bN.cell (p := ⟨w.heap.size, 0, none⟩) (by show w.heap.size < W.heap.size; omega)).trans r0
  have q1 := (bN.cell (p := ⟨w.heap.size + 1, 0, none⟩) (by show w.heap.size + 1 < W.heap.size; omega)).trans r1
  have q2 := (bN.block (w.heap.size + 1 + 1) (by omega)).trans r2
  have q3 := (bN.block (w.heap.size + 1 + 1 + 1) (by omega)).trans r3
  clear hW1 r0 r1 r2 r3 c0 c1 c2 c3 c4 c5 hd HD b0 bN nN s0
  refine wpIn_rangeFunc_ownG rfl (by omega) (gf := 132) (lb := #[.pointer (some ⟨w.heap.size + 4, 0, none⟩)]) rfl trivial (enters_of Try.func132 (by kernel_rfl) rfl)
    (back_stops Fence.wide _ trivial rfl (by omega) (w.heap.size + 4) W1.heap.size cv D.cache hlen hzs W1 (by omega) (Nat.le_refl _) (by omega) cN ((hci.below bB).wider (by omega))) belowK_t (belowK_b (Nat.le_refl _)) (Below.refl _ _) (fun _ => rfl)
    (ReadI D w g n) (ReadX D w g n)
    (OwnFrom.and (Own.from (fun s A B row hs hg hr => ⟨hs.1, cell_kept hs.2.1 hg hr, cell_kept hs.2.2.1 hg hr, (grownBy_keeps_cells hg hr hs.2.2.2.1 rfl).trans hs.2.2.2.1, (grownBy_keeps_cells hg hr hs.2.2.2.2 rfl).trans hs.2.2.2.2⟩) _) (ownFrom_below (Nat.le_refl _) (by omega)))
    (fun c => OwnFrom.and (Own.from (fun s A B row hs hg hr => by obtain ⟨hc, ini, last, e1, e2, e3, e4, e5⟩ := hs; exact ⟨hc, ini, last, e1, e2, e3, (grownBy_keeps_cells hg hr e4 rfl).trans e4, cell_kept e5 hg hr⟩) _) (ownFrom_below (Nat.le_refl _) (by omega)))
    ⟨⟨by simp, q0, q1, q2, q3⟩, bB⟩
    (fun x => { tmps := #[.pointer (some ⟨g, 0, none⟩), .int .i64 n, .pointer (some ⟨w.heap.size, 0, none⟩), .pointer (some ⟨w.heap.size + 1, 0, none⟩), .pointer (some ⟨w.heap.size + 1 + 1, 0, none⟩), .pointer (some ⟨w.heap.size + 1 + 1 + 1, 0, none⟩), .int .i64 0, .int .i64 (x.1 : Int),
          .pointer (some ⟨g, 0, none⟩), .int .i64 n, .int .i64 0, .int .i64 0, .bool false, undef, undef, .pointer (some ⟨g, 0, none⟩), .pointer (some ⟨g, 0, none⟩), .pointer (some ⟨g, 4, none⟩), cv,
          .func (.func 132) #[] #[.pointer (some ⟨w.heap.size + 4, 0, none⟩)], .int .i64 (x.1 : Int), .agg (wrV (D.cache[x.1]?.getD (0, []))).toArray,
          undef, undef, undef, undef, undef, undef, undef, undef, undef, undef, undef, undef, undef, undef, undef, undef, undef, undef, undef, undef, undef, undef, undef, undef, undef], defers := [] }) ?assign ?body ?done ?stop
  case assign =>
    intro l x W K hK
    dsimp only [encW]
    gi_wp2
    exact hK
  case body =>
    rintro l pre x W' ⟨⟨hne, k0, k1, k2, k3⟩, hB⟩ _
    have hdW : IsDisk B W' g gs cv D := HH.out.more hB
    have hi := x.2
    obtain ⟨p, hp⟩ : ∃ p, D.cache[x.1]? = some p := ⟨_, List.getElem?_eq_getElem hi⟩
    obtain ⟨gc, cap, hcve, h1, h2, h3, h4, h5, h6, hc, hr⟩ := cache_at hdW hp
    have c4 := (head_facts hdW.1).2.2.2.2.1
    rw [hcve] at c4
    have hi0 : (0 : Int) ≤ (x.1 : Int) ∧ (x.1 : Int) < (D.cache.length : Int) := by omega
    unfold maxLen at h2
    have HI := Lib.hid (And.intro hi hp)
    have HB := Lib.hid hB
    have HN := Lib.hid hne
    simp only [hcve]
    clear hdW hB hne hi hp
    gi_wp2
    refine wpIn_any_post { tmps := #[.pointer (some ⟨g, 0, none⟩), .int .i64 n, .pointer (some ⟨w.heap.size, 0, none⟩), .pointer (some ⟨w.heap.size + 1, 0, none⟩), .pointer (some ⟨w.heap.size + 1 + 1, 0, none⟩), .pointer (some ⟨w.heap.size + 1 + 1 + 1, 0, none⟩), .int .i64 0, .int .i64 (x.1 : Int),
          .pointer (some ⟨g, 0, none⟩), .int .i64 n, .int .i64 0, .int .i64 0, .bool false, undef, undef, .pointer (some ⟨g, 0, none⟩), .pointer (some ⟨g, 0, none⟩), .pointer (some ⟨g, 4, none⟩), .slice (some ⟨gc, 0, none⟩) D.cache.length cap,
          .func (.func 132) #[] #[.pointer (some ⟨w.heap.size + 4, 0, none⟩)], .int .i64 (x.1 : Int), .agg (wrV (D.cache[x.1]?.getD (0, []))).toArray,
          .pointer (some ⟨g, 0, none⟩), .pointer (some ⟨g, 0, none⟩), .pointer (some ⟨g, 4, none⟩), .slice (some ⟨gc, 0, none⟩) D.cache.length cap, .int .i64 (x.1 : Int), .pointer (some ⟨gc, x.1 * 129, none⟩), .pointer (some ⟨gc, x.1 * 129, none⟩), .int .i64 p.1, .int .i64 n, .bool ((p.1 : Int) == (n : Int)), undef, undef, undef, undef, undef, undef, undef, undef, undef, undef, undef, undef, undef, undef, undef], defers := [] } W'.drew (fun Q hQ => ?_) ?_
    · clear hcv hci hlen hzs hz hbld HR HH q0 q1 q2 q3 cN bB HB HN HI hr hcve k2 k3 h3 h4 h5 h6 ha1 ha2 hgl
      gi_region
      all_goals exact hQ
    have d0 : W'.drew.cell? ⟨w.heap.size + 1, 0, none⟩ = some (.int .i64 n) := k1
    have d00 : W'.drew.cell? ⟨w.heap.size, 0, none⟩ = some (.pointer (some ⟨g, 0, none⟩)) := k0
    have d1 : W'.drew.cell? ⟨g, 4, none⟩ = some (.slice (some ⟨gc, 0, none⟩) D.cache.length cap) := c4
    have d2 : W'.drew.rangeAt gc (x.1 * 129 + 1) (p.2.map byteV) := hr
    have d3 : W'.drew.heap[w.heap.size + 1 + 1]? = some (.cells (cells noughts) 106 (0, 0)) := k2
    have d4 : W'.drew.heap[w.heap.size + 1 + 1 + 1]? = some (.cells #[.int .i64 0] 47 (0, 0)) := k3
    have d5 : Below w.heap.size w W'.drew := HB.out.trans (Below.refl _ _).drew
    have d6 : KeepsFrom W1.heap.size W' W'.drew := (KeepsOthers.drew W').from _
    have d7 : Below W1.heap.size W' W'.drew := (Below.refl _ _).drew
    generalize W'.drew = W2 at *
    have hpe : (D.cache[x.1]?.getD (0, [])) = p := by rw [HI.out.2]; rfl
    have hp8 : p.2.length = 128 := hzs p (List.mem_of_getElem? HI.out.2)
    by_cases hx : p.1 = n
    · have hx2 : ((p.1 : Int) == (n : Int)) = true := by simp [hx]
      rw [hx2]
      obtain ⟨⟨y1, y2⟩, y3, y4, y5⟩ := rdone (l := p.2) (v := 0) d5 d3 d4
      have hsi : (Try.prog.info? 106).map (·.size) = some (p.2.map byteV).length := by rw [List.length_map, hp8]; exact size_sector
      have hsc : (Try.prog.info? 106).map (·.size) = some (cells p.2).size := by rw [cells_size, hp8]; exact size_sector
      have hso : (cells noughts).size = (cells p.2).size := by rw [cells_size, cells_size, hp8]; rfl
      have hone := cells_one p.2
      have HP := Lib.hid hpe
      have HY := Lib.hid (And.intro y3 (And.intro y4 y5))
      have HX := Lib.hid hx
      have H8 := Lib.hid hp8
      have D5 := Lib.hid d5
      clear hpe y3 y4 y5 d5 hx hp8 hx2 hcv hci hlen hzs
      gi_wp2_with (first
        | refine wpListIn_load_mid rfl 106 _ rfl gc (x.1 * 129 + 1) (by go_simp) (p.2.map byteV) _ d2 row_sector rfl hsi ?_
        | refine wpListIn_store_row rfl 106 _ _ rfl (w.heap.size + 1 + 1) (cells p.2) (by go_simp) (by go_simp; rfl) 106 _ d3 hsc hso hone ?_)
      refine ⟨d6.trans ((KeepsFrom.of_grownBy (grown_row W2 (w.heap.size + 1 + 1) (cells p.2)) (fun j e => by cases e; omega)).trans ((KeepsOthers.setCell _ _ _).from _)), ⟨rfl, pre, x, rfl, HN.out, ?_, ?_, HY.out.2.1⟩, HY.out.2.2⟩
      · rw [HP.out]; exact HX.out
      · rw [HP.out]; exact HY.out.1
    · have hx2 : ((p.1 : Int) == (n : Int)) = false := by simp; omega
      rw [hx2]
      gi_wp2
      refine ⟨d6, d7, ⟨fun y hy => ?_, d00, d0, d3, d4⟩, d5⟩
      rcases List.mem_append.1 hy with hy | hy
      · exact HN.out y hy
      · have : y = x := by simpa using hy
        rw [this, hpe]; exact hx
  case done =>
    rintro Dn ys W2 hDn hys ⟨⟨hne, k0, k1, k2, k3⟩, hB⟩ hK
    have hdW : IsDisk B W2 g gs cv D := HH.out.more hB
    have c3 := (head_facts hdW.1).2.2.2.1
    obtain ⟨s, hs⟩ : ∃ s, D.secs[n]? = some s := ⟨_, List.getElem?_eq_getElem (by omega)⟩
    have hs8 : s.length = 128 := (HH.out.2.2.2.1.1 s (List.mem_of_getElem? hs)).1
    have hx2 : (0 : Int) ≤ (n : Int) ∧ (n : Int) < (D.secs.length : Int) := by omega
    have hrs : W2.rangeAt gs (n * 128) (s.map byteV) := fun j u hu => by
      have hv := flat_at (fun s => s.map byteV) 128 D.secs HH.out.2.2.2.1.sec n s hs j u hu
      unfold World.cell?
      rw [hdW.2.1]
      simp only [List.getElem?_toArray]
      have hlt9 : n * 128 + j < (secV D.secs).length := (List.getElem?_eq_some_iff.1 hv).1
      rw [List.getElem?_append_left hlt9]
      exact hv
    have hrd : readL D.cache n (D.secs[n]?.getD noughts) = s := by
      rw [readL_none, hs]; rfl
      intro i hi
      have hm : i ∈ ys.map (·.1) := by rw [hys]; exact (downs_mem (Nat.le_refl _)).2 (by omega)
      obtain ⟨y, hy, rfl⟩ := List.mem_map.1 hm
      exact hne y hy
    gi_wp2
    refine wpIn_wide.2 ?_
    have hgsl : gs < w.heap.size := (Array.getElem?_eq_some_iff.1 HH.out.2.1).1
    have hsi : (Try.prog.info? 106).map (·.size) = some (s.map byteV).length := by rw [List.length_map, hs8]; exact size_sector
    have hone : ∀ v ∈ s.map byteV, v.oneCell' = true := byteV_oneCell s
    have hu := row_sector
    have hl8 : (s.map byteV).length = 128 := by rw [List.length_map]; exact hs8
    have e3 : W2.cell? ⟨w.heap.size + 1 + 1 + 1, 0, none⟩ = some (.int .i64 0) := by unfold World.cell?; rw [k3]; rfl
    have f3 : W2.frozen? ⟨w.heap.size + 1 + 1 + 1, 0, none⟩ = false := frozen_of_row _ _ _ _ _ k3
    have hth : W2.there (w.heap.size + 1 + 1) 0 128 := fun j hj => by
      refine ⟨?_, frozen_of_row _ _ _ _ _ k2⟩
      unfold World.cell?
      rw [k2]
      have hn : noughts.length = 128 := rfl
      simp [cells, hn]; omega
    have K0 : DoneS D w.heap.size g gs n s W2.drew := ⟨k0, k1, c3, hrs, hth, e3, f3⟩
    have K1 := doneS_row K0 hgl hgsl (s.map byteV)
    have K2 := doneS_cell K1 hgl hgsl
    have HB := Lib.hid (rdone2 (l := s) (v := 0) hs8 (show Below w.heap.size w W2.drew from hB.trans (Below.refl _ _).drew) k2 k3)
    have HK := Lib.hid hK
    have HDn : Hid (w.heap.size + 5 ≤ Dn) := by show _ ≤ _; omega
    have H8 := Lib.hid hs8
    have HRD := Lib.hid hrd
    unfold DoneS at K0 K1 K2
    clear hdW hcv hci hlen hzs hne hB hys hs hs8 hrd hK hDn q0 q1 q2 q3 cN hth bB ha1 ha2 s1 hgsl k2 k3
    go_region_held3 (fun w' => w'.cell? ⟨w.heap.size, 0, none⟩ = some (.pointer (some ⟨g, 0, none⟩)) ∧ w'.cell? ⟨w.heap.size + 1, 0, none⟩ = some (.int .i64 n) ∧ w'.cell? ⟨g, 3, none⟩ = some (.slice (some ⟨gs, 0, none⟩) D.secs.length D.room) ∧ w'.rangeAt gs (n * 128) (s.map byteV) ∧ w'.there (w.heap.size + 1 + 1) 0 128 ∧ w'.cell? ⟨w.heap.size + 1 + 1 + 1, 0, none⟩ = some (.int .i64 0) ∧ w'.frozen? ⟨w.heap.size + 1 + 1 + 1, 0, none⟩ = false)
      (first | exact K0 | exact K1 | exact K2) (fail)
    rename_i hheld
    clear hheld
    gi_wp2
    have hdn : w.heap.size + 5 ≤ Dn := HDn.out
    have hK3 : ((W2.drew.setCells (w.heap.size + 1 + 1) 0 (s.map byteV)).setCell ⟨w.heap.size + 1 + 1 + 1, 0, none⟩ (.int .i64 0)).heap[Dn]? = some (.deferred (some [])) := by
      rw [Below.heap_setCell _ _ _ _ (by show Dn ≠ w.heap.size + 1 + 1 + 1; omega), setCells_other _ _ (by omega)]
      exact HK.out
    obtain ⟨z1, z2, z3⟩ := HB.out
    obtain ⟨W3, hW3⟩ : ∃ W3, (W2.drew.setCells (w.heap.size + 1 + 1) 0 (s.map byteV)).setCell ⟨w.heap.size + 1 + 1 + 1, 0, none⟩ (.int .i64 0) = W3 := ⟨_, rfl⟩
    rw [hW3] at hK3 z1 z2 z3 ⊢
    refine ⟨by simp, .inl ⟨_, _, rfl, run_takeDeferred hK3, ?_⟩⟩
    have hg := grownBy_putObj' W3 Dn (.deferred none)
    have hrow : ∀ r, some Dn = some r → ∃ o : Obj, W3.heap[r]? = some o ∧ o.isCells = false := fun r e => by cases e; exact ⟨_, hK3, rfl⟩
    refine ⟨_, results_two rfl _ _ (w.heap.size + 1 + 1) (w.heap.size + 1 + 1 + 1) _ 0 _ _ rfl rfl ((grownBy_keeps_cells hg hrow z1 rfl).trans z1) H8.out (cell_kept z2 hg hrow), ?_, z3.trans (belowK_b (w := w) (Nat.le_refl _) W3 Dn _ _ (by omega) hK3 rfl rfl)⟩
    rw [HRD.out]
  case stop =>
    rintro Dn c pre W2 hDn ⟨k, hk, hpre⟩ ⟨⟨rfl, ini, last, e1, e2, e3, e4, e5⟩, hB⟩ hK
    gi_wp2
    refine ⟨by simp, .inl ⟨_, _, rfl, run_takeDeferred hK, ?_⟩⟩
    have hp8 : (D.cache[last.1]?.getD (0, [])).2.length = 128 := by
      rw [List.getElem?_eq_getElem last.2]; exact hzs _ (List.getElem_mem _)
    have hg := grownBy_putObj' W2 Dn (.deferred none)
    have hrow : ∀ r, some Dn = some r → ∃ o : Obj, W2.heap[r]? = some o ∧ o.isCells = false := fun r e => by cases e; exact ⟨_, hK, rfl⟩
    refine ⟨_, results_two rfl _ _ (w.heap.size + 1 + 1) (w.heap.size + 1 + 1 + 1) _ 0 _ _ rfl rfl ((grownBy_keeps_cells hg hrow e4 rfl).trans e4) hp8 (cell_kept e5 hg hrow), ?_, hB.trans (belowK_b (w := w) (Nat.le_refl _) W2 Dn _ _ (by omega) hK rfl rfl)⟩
    have hfin : readL D.cache n (D.secs[n]?.getD noughts) = (D.cache[last.1]?.getD (0, [])).2 := by
      refine readL_last _ _ _ last.1 last.2 e3 fun i h1 h2 => ?_
      rw [e1, List.map_append] at hpre
      cases k with
      | zero => simp [downs] at hpre
      | succ k' =>
        rw [downs_succ] at hpre
        obtain ⟨p1, p2⟩ := List.append_inj' hpre rfl
        have hl : last.1 = D.cache.length - 1 - k' := by simpa using p2
        have hm : i ∈ ini.map (·.1) := by rw [p1]; exact (downs_mem (by omega)).2 (by omega)
        obtain ⟨y, hy, rfl⟩ := List.mem_map.1 hm
        exact e2 y hy
    rw [hfin]

theorem dread_is {B : Nat} {w : World} {g gs : Nat} {cv : Value} {D : DiskD} (h : IsDisk B w g gs cv D) (at_ : Int) :
    Calls Try.prog 53 #[.pointer (some ⟨g, 0, none⟩), .int .i64 at_] w fun e w' => e = .returned (.tuple #[.agg (cells (readS D at_)), .int .i64 (refI D at_)]) ∧ Below w.heap.size w w' := by
  by_cases h0 : refI D at_ = 0
  · exact dread_yes h at_ h0
  · exact dread_no h at_ h0
end Go.Proofs.Ythainmbapikjiaa
