/- A write's own cells, as its literal and the literal slice about it make them. A disk's Write, told by its walk. -/
import Derived.Deep.AppendLies
import Derived.Test.YthainmbapikjiaaGkgojahoh
import Derived.Deep.MidRow
import Derived.Great.BuildSlice
import Derived.Great.FillDense
namespace Go.Proofs.Ythainmbapikjiaa
open Go.RowKit Go.Sort
set_option linter.unusedVariables false
set_option maxRecDepth 100000

theorem wr_info : (Try.prog.info? 130).map (fun i => (i.zero, i.size, i.bytes)) = some (some (.agg (wrV (0, noughts)).toArray), 129, 136) := by kernel_rfl
theorem wr_place : ((match Try.prog.underlying 130 with | some (.struct fs) => fs.toList.mapM (fun f => (Try.prog.info? f.type).map fun i => (f.offset, i.size)) | _ => none) : Option (List (Nat × Nat))) = some [(0, 1), (1, 128)] := by kernel_rfl
theorem wrV_size (p : Nat × List Nat) : (wrV p).length = p.2.length + 1 := by simp [wrV]

theorem build_write (n : Nat) (s : List Nat) (hs : s.length = 128) (w : World) : (Instr.build 130 #[(0, .int .i64 n), (1, .agg (cells s))]).run Try.prog w = .ok (.agg (wrV (n, s)).toArray) w := by
  refine run_build w _ _ _ ?_
  have h1 := wr_info
  have h2 := wr_place
  unfold Program.built
  cases hi : Try.prog.info? 130 with
  | none => simp [hi] at h1
  | some it =>
    simp only [hi, Option.map_some, Option.some.injEq, Prod.mk.injEq] at h1
    cases hu : Try.prog.underlying 130 with
    | none => simp [hu] at h2
    | some d =>
      rw [hu] at h2
      cases d <;> simp only [reduceCtorEq] at h2
      simp only [h1.1, h2]
      have hz : (wrV (0, noughts)).length = 129 := rfl
      have hc : (Value.agg (cells s)).cells.size = 128 := by simp [Value.cells, cells_size, hs]
      have hc1 : (Value.int .i64 n).cells = #[Value.int .i64 n] := rfl
      simp only [Instr.fill, List.getElem?_toArray, List.getElem?_cons_zero, List.getElem?_cons_succ, Value.cells, cells_size, hs, hz, List.size_toArray]
      rw [if_neg (by simp)]
      have e1 : Array.foldl (fun (cs : Array Value) (x : Value × Nat) => cs.setIfInBounds (0 + x.snd) x.fst) (wrV (0, noughts)).toArray (#[Value.int .i64 n]).zipIdx = (wrV (n, noughts)).toArray := by
        simp [wrV]
      rw [e1]
      simp only [List.size_toArray]
      rw [if_neg (by rw [wrV_size]; simp [show noughts.length = 128 from rfl])]
      congr 1
      have e : Array.foldl (fun (cs : Array Value) (x : Value × Nat) => cs.setIfInBounds (1 + x.snd) x.fst) (wrV (n, noughts)).toArray (cells s).zipIdx =
          ((s.map byteV).zipIdx 0).foldl (fun cs (p : Value × Nat) => cs.setIfInBounds (1 + p.2) p.1) (wrV (n, noughts)).toArray := by
        rw [← Array.foldl_toList]
        simp [cells]
      rw [e, fold_splice 1 (s.map byteV) 0 _ (by simp [hs, wrV_size]; decide)]
      apply Array.ext'
      have hn : noughts.length = 128 := rfl
      simp [wrV, hs, hn]

theorem slice_write (p : Nat × List Nat) (hs : p.2.length = 128) (w : World) : (Instr.buildSlice 124 1 #[(0, .agg (wrV p).toArray)]).run Try.prog w = .ok (.slice (some ⟨w.heap.size, 0, none⟩) 1 1) (w.alloc (.cells (wrV p).toArray 130)) := by
  obtain ⟨i0, hi, hz0, hz1, hz2⟩ := info_parts wr_info
  refine run_buildSlice w _ 130 1 _ _ i0 _ Try.underlying124 hi hz0 (by rw [hz1]; decide) (by rw [hz1]; decide) ?_
  rw [hz1]
  have hl : (wrV p).length = 129 := by rw [wrV_size, hs]
  have hw := Great.fill_whole (s := 129) (by decide) [Value.agg (wrV p).toArray] ((Array.range (1 * 129)).map ((Value.agg (wrV (0, noughts)).toArray).cells[· % (Value.agg (wrV (0, noughts)).toArray).cells.size]!)) (by intro v hv; simp only [List.mem_singleton] at hv; subst hv; simp [Value.cells, hl]) (by simp)
  simpa [Value.cells] using hw

/-! ### A step of a drawn region each -/
theorem step_build_write {w : World} {ops : Array Oper} {o : Oper} {a : Act} {K : Act → World → Prop} {Q : Exit → Act → World → Prop} {E : Prop} (hgd : Region.wanted o (yielded ops a.tmps) = true) (x y : Operand)
    (ho : o.op = .build 130 #[(0, x), (1, y)]) (n : Nat) (s : List Nat) (hx : a.eval x = .int .i64 (n : Int)) (hy : a.eval y = .agg (cells s)) (hs : s.length = 128)
    (h : K (a.put o.dst (.agg (wrV (n, s)).toArray)) w) :
    if Region.wanted o (yielded ops a.tmps) = true then Oper.wp Try.prog o a w K Q else E := by
  rw [if_pos hgd]
  unfold Oper.wp execOp
  have e : ((#[(0, x), (1, y)] : Array (Nat × Operand)).map fun (i, x) => (i, a.eval x)) = #[(0, Value.int .i64 (n : Int)), (1, Value.agg (cells s))] := by simp [hx, hy]
  simp only [ho, Sem.run_bind, e, build_write n s hs w, Result.andThen_ok]
  exact h
theorem step_slice_write {w : World} {ops : Array Oper} {o : Oper} {a : Act} {K : Act → World → Prop} {Q : Exit → Act → World → Prop} {E : Prop} (hgd : Region.wanted o (yielded ops a.tmps) = true) (x : Operand)
    (ho : o.op = .buildSlice 124 1 #[(0, x)]) (p : Nat × List Nat) (hx : a.eval x = .agg (wrV p).toArray) (hs : p.2.length = 128)
    (h : ∀ gn w', gn = w.heap.size → w' = w.alloc (.cells (wrV p).toArray 130) → K (a.put o.dst (.slice (some ⟨gn, 0, none⟩) 1 1)) w') :
    if Region.wanted o (yielded ops a.tmps) = true then Oper.wp Try.prog o a w K Q else E := by
  rw [if_pos hgd]
  unfold Oper.wp execOp
  have e : ((#[(0, x)] : Array (Nat × Operand)).map fun (i, x) => (i, a.eval x)) = #[(0, Value.agg (wrV p).toArray)] := by simp [hx]
  simp only [ho, Sem.run_bind, e, slice_write p hs w, Result.andThen_ok]
  exact h _ _ rfl rfl
theorem step_append_write {w : World} {ops : Array Oper} {o : Oper} {a : Act} {K : Act → World → Prop} {Q : Exit → Act → World → Prop} {E : Prop} (hgd : Region.wanted o (yielded ops a.tmps) = true) (s x : Operand)
    (ho : o.op = .call { callee := .builtin .append, args := #[s, x], argTypes := #[124, 124] })
    (B : Nat) (cv : Value) (n : Nat) (xs : List Value) (hs : a.eval s = cv) (hown : w.ownsRow B 130 129 cv n xs) (gn : Nat) (hx : a.eval x = .slice (some ⟨gn, 0, none⟩) 1 1) (p : Nat × List Nat) (hp : p.2.length = 128)
    (hg : w.heap[gn]? = some (.cells (wrV p).toArray 130 (0, 0))) (hn : n < 1000000) (hB : B ≤ w.heap.size)
    (h : ∀ v' w', w'.ownsRow B 130 129 v' (n + 1) (xs ++ wrV p) → w.grownBy w' cv.ownBlock → (v'.ownBlock = cv.ownBlock ∨ v'.ownBlock = some w.heap.size) → K (a.put o.dst v') w') :
    if Region.wanted o (yielded ops a.tmps) = true then Oper.wp Try.prog o a w K Q else E := by
  rw [if_pos hgd]
  obtain ⟨i0, hi, hz0, hz1, hz2⟩ := info_parts wr_info
  refine wp_append_lies w s x 124 ho B 130 i0 (.agg (wrV (0, noughts)).toArray) 129 136 Try.underlying124 hi hz0 hz1 hz2 rfl (by decide) cv n xs hs hown ⟨gn, 0, none⟩ 1 1 (wrV p) hx (by rw [wrV_size, hp])
      ?_ ?_ (by decide) (by unfold maxLen; omega) (by omega) hB _ rfl (fun g cap w' h1 h2 h3 _ => h _ w' h1 h2 (h3.imp (fun e => e.symm) (fun e => by rw [e]; rfl)))
  · intro j u hu
    rw [add_none]
    unfold World.cell?
    simp only [hg, List.getElem?_toArray, Nat.zero_add]
    exact hu
  · intro u hu
    simp only [wrV, List.mem_cons] at hu
    rcases hu with rfl | hu
    · rfl
    · exact byteV_oneCell _ u hu

theorem own_ne_g {B : Nat} {w : World} {g gs : Nat} {cv : Value} {D : DiskD} (h : IsDisk B w g gs cv D) (k : Nat) (hk : cv.ownBlock = some k) : k ≠ g ∧ k ≠ gs := by
  obtain ⟨k1, k2, ⟨_, k3⟩, _⟩ := h
  rcases k3 with ⟨rfl, _⟩ | ⟨gc, cap, cur, rfl, _, q, _⟩
  · cases hk
  · simp only [Value.ownBlock, Option.some.injEq] at hk
    subst hk
    constructor
    · rintro rfl; rw [k1] at q; injection q with q; injection q with _ q; exact absurd q (by decide)
    · rintro rfl; rw [k2] at q; injection q with q; injection q with _ q; exact absurd q (by decide)
theorem cacheV_snoc (l : List (Nat × List Nat)) (p : Nat × List Nat) : cacheV (l ++ [p]) = cacheV l ++ wrV p := by simp [cacheV]
def pushD (D : DiskD) (p : Nat × List Nat) : DiskD := { D with cache := D.cache ++ [p] }
theorem disk_pushed {B : Nat} {w w1 w2 : World} {g gs : Nat} {cv v2 : Value} {D : DiskD} {p : Nat × List Nat} (h : IsDisk B w g gs cv D) (b : Below w.heap.size w w1)
    (ho : w2.ownsRow B 130 129 v2 (D.cache.length + 1) (cacheV D.cache ++ wrV p)) (hg : w1.grownBy w2 cv.ownBlock)
    (hp : p.1 < D.secs.length ∧ p.2.length = 128 ∧ Bytes p.2) (hn : D.cache.length < 1000000) :
    IsDisk B (w2.setCell ⟨g, 4, none⟩ v2) g gs v2 (pushD D p) ∧ DKeeps g gs cv w (w2.setCell ⟨g, 4, none⟩ v2) := by
  have hsg := gs_ne_g h
  have hown := own_ne_g h
  obtain ⟨k1, k2, k3, ⟨m1, m2, m3, m4, m5, m6, m7⟩, k5, k6⟩ := h
  have hgl : g < w.heap.size := (Array.getElem?_eq_some_iff.1 k1).1
  have hgsl : gs < w.heap.size := (Array.getElem?_eq_some_iff.1 k2).1
  have hb : ∀ k, k < w.heap.size → cv.ownBlock ≠ some k → w2.heap[k]? = w.heap[k]? := fun k hk hne => (hg.block k (Nat.lt_of_lt_of_le hk b.size) (Ne.symm hne)).trans (b.block k hk)
  have hg2 : w2.heap[g]? = some (.cells (headV D gs cv) 126 (0, 0)) := (hb g hgl (fun e => (hown g e).1 rfl)).trans k1
  have hgs2 : w2.heap[gs]? = some (.cells (secV D.secs ++ D.junk).toArray 106 (0, 0)) := (hb gs hgsl (fun e => (hown gs e).2 rfl)).trans k2
  refine ⟨⟨?_, ?_, ?_, ⟨m1, ?_, m3, m4, ?_, m6, m7⟩, k5, k6⟩, ⟨hg.os.trans b.os, hg.tape.trans b.tape, hg.output.trans b.output, ?_, ?_⟩⟩
  · rw [heap_setCell_same w2 g 4 _ _ _ hg2]
    rfl
  · rw [Below.heap_setCell _ _ _ _ hsg]
    exact hgs2
  · show World.ownsRow _ _ _ _ _ (D.cache ++ [p]).length (cacheV (D.cache ++ [p]))
    rw [cacheV_snoc, List.length_append]
    obtain ⟨q1, q2⟩ := ho
    refine ⟨q1, ?_⟩
    rcases q2 with q2 | ⟨gc, cap, cur, hv, q3, q4, rest⟩
    · exact .inl q2
    · refine .inr ⟨gc, cap, cur, hv, q3, ?_, rest⟩
      rw [Below.heap_setCell _ _ _ _ ?_]
      · exact q4
      · rintro rfl; rw [q4] at hg2; injection hg2 with hg2; injection hg2 with _ hg2; exact absurd hg2 (by decide)
  · intro q hq
    rcases List.mem_append.1 hq with hq | hq
    · exact m2 q hq
    · rw [List.mem_singleton.1 hq]; exact hp
  · show (D.cache ++ [p]).length ≤ _
    rw [List.length_append]
    exact hn
  · have := b.size
    have := hg.size
    simp [World.setCell]
    omega
  · intro k hk h1 _ h3
    rw [Below.heap_setCell _ _ _ _ h1]
    exact hb k hk h3
end Go.Proofs.Ythainmbapikjiaa

namespace Go.Proofs.Ythainmbapikjiaa
open Go.RowKit Go.Sort
set_option linter.unusedVariables false
set_option linter.unusedSimpArgs false
set_option maxRecDepth 100000

def writeD (D : DiskD) (at_ : Int) (s : List Nat) : DiskD := if refI D at_ ≠ 0 then D else deedD (pushD D (at_.toNat, s))
def writeE (D : DiskD) (at_ : Int) : Int := if refI D at_ ≠ 0 then refI D at_ else deedE D
theorem refI_zero {D : DiskD} {at_ : Int} (h : refI D at_ = 0) : (0 ≤ at_ ∧ at_ < (D.secs.length : Int)) ∧ D.dead = false := by
  unfold refI at h
  split at h
  · cases h
  · rename_i h1
    split at h
    · cases h
    · rename_i h2
      exact ⟨by omega, by simpa using h2⟩
theorem ranges_below {B : Nat} {a b : World} (h : Below B a b) {g o : Nat} {cs : List Value} (hg : g < B) (hr : a.rangeAt g o cs) : b.rangeAt g o cs := fun j v hv => (h.cell (p := ⟨g, o + j, none⟩) hg).trans (hr j v hv)
theorem range_of {w : World} {g : Nat} {s : List Nat} {t : TypeId} (h : w.heap[g]? = some (.cells (cells s) t (0, 0))) : w.rangeAt g 0 (s.map byteV) := fun j v hv => by
  unfold World.cell?
  simp only [h, cells, List.getElem?_toArray, Nat.zero_add]
  exact hv

theorem fold_write (n : Nat) (s : List Nat) (hs : s.length = 128) : List.foldl (fun (cs : Array Value) (x : Value × Nat) => cs.setIfInBounds (1 + x.snd) x.fst) (Try.zeroCells130.setIfInBounds 0 (.int .i64 (n : Int))) (List.map byteV s).zipIdx = (wrV (n, s)).toArray := by
  have hz : Try.zeroCells130 = (wrV (0, noughts)).toArray := by kernel_rfl
  rw [hz]
  have e1 : (wrV (0, noughts)).toArray.setIfInBounds 0 (.int .i64 (n : Int)) = (wrV (n, noughts)).toArray := by simp [wrV]
  rw [e1]
  have := fold_splice 1 (s.map byteV) 0 (wrV (n, noughts)).toArray (by simp [hs, wrV_size]; decide)
  rw [this]
  apply Array.ext'
  have hn : noughts.length = 128 := rfl
  simp [wrV, hs, hn]

theorem fold_cell (l : List Value) (hl : l.length = 129) (cs : Array Value) (hc : cs.size = 129) : List.foldl (fun (cs : Array Value) (x : Value × Nat) => cs.setIfInBounds x.snd x.fst) cs l.zipIdx = l.toArray := by
  have h := fold_splice 0 l 0 cs (by omega)
  simp only [Nat.zero_add, List.take_zero, List.nil_append] at h
  rw [h, List.drop_of_length_le (by simp; omega), List.append_nil]

theorem own_slice {w : World} {B : Nat} {e : TypeId} {size : Nat} {v : Value} {n : Nat} {xs : List Value} (h : w.ownsRow B e size v n xs) : ∃ a l c, v = .slice a l c := by
  obtain ⟨_, ⟨rfl, _⟩ | ⟨gc, cap, cur, rfl, _⟩⟩ := h
  · exact ⟨_, _, _, rfl⟩
  · exact ⟨_, _, _, rfl⟩
theorem range_set {w : World} {m g : Nat} {cs : List Value} (hne : m ≠ g) (v : Value) (h : w.rangeAt m 0 cs) : (w.setCell ⟨g, 4, none⟩ v).rangeAt m 0 cs := fun j u hu =>
  (World.cell?_of_block (w := w) (w' := w.setCell ⟨g, 4, none⟩ v) (a := ⟨m, 0 + j, none⟩) (Below.heap_setCell _ _ _ _ hne)).trans (h j u hu)
/-- The box of the sector that is written is none of the disk's. -/
theorem write_kept {w w2 w3 : World} {cv : Value} {g m : Nat} {cs : List Value} (g3 : w2.grownBy w3 cv.ownBlock) (b2 : Below w.heap.size w w2) (hg : g < w.heap.size) (hm : m < w.heap.size) (hne : ∀ k, cv.ownBlock = some k → k ≠ g) (hnm : ∀ k, cv.ownBlock = some k → k ≠ m)
    (h4 : w.cell? ⟨g, 4, none⟩ = some cv) (hf : w.frozen? ⟨g, 4, none⟩ = false) (hr : w.rangeAt m 0 cs) : (w3.cell? ⟨g, 4, none⟩ = some cv ∧ w3.rangeAt m 0 cs) ∧ w3.frozen? ⟨g, 4, none⟩ = false := by
  have e1 : w3.heap[g]? = w.heap[g]? := (g3.block g (Nat.lt_of_lt_of_le hg b2.size) (fun e => hne g e.symm rfl)).trans (b2.block g hg)
  have e2 : w3.heap[m]? = w.heap[m]? := (g3.block m (Nat.lt_of_lt_of_le hm b2.size) (fun e => hnm m e.symm rfl)).trans (b2.block m hm)
  refine ⟨⟨(World.cell?_of_block (a := ⟨g, 4, none⟩) e1).trans h4, fun j v hv => (World.cell?_of_block (a := ⟨m, 0 + j, none⟩) e2).trans (hr j v hv)⟩, (World.frozen?_of_block (a := ⟨g, 4, none⟩) e1).trans hf⟩

theorem DKeeps.of_below {g gs : Nat} {cv : Value} {w w' : World} (b : Below w.heap.size w w') : DKeeps g gs cv w w' := ⟨b.os, b.tape, b.output, b.size, fun k hk _ _ _ => b.block k hk⟩

/-- A new slice is where the old one was, or it is new. -/
def Lies (w : World) (cv cv' : Value) : Prop := cv'.ownBlock = cv.ownBlock ∨ ∀ k, cv'.ownBlock = some k → w.heap.size ≤ k
theorem lies_of {w : World} {n : Nat} {cv cv' : Value} (hn : w.heap.size ≤ n) (h : cv'.ownBlock = cv.ownBlock ∨ cv'.ownBlock = some n) : Lies w cv cv' := by
  rcases h with h | h
  · exact .inl h
  · right
    intro k hk
    rw [h] at hk
    cases hk
    exact hn
set_option maxHeartbeats 1600000 in
theorem dwrite_lies {B : Nat} {w : World} {g gs : Nat} {cv : Value} {D : DiskD} (h : IsDisk B w g gs cv D) (hd : D.deeds < 1000000) (hc : D.cache.length < 1000000) (at_ : Int) (s : List Nat) (hs : s.length = 128) (hb : Bytes s) :
    Calls Try.prog 52 #[.pointer (some ⟨g, 0, none⟩), .int .i64 at_, .agg (cells s)] w fun e w' => e = .returned (.int .i64 (writeE D at_)) ∧ (∃ cv', IsDisk B w' g gs cv' (writeD D at_ s) ∧ Lies w cv cv') ∧ DKeeps g gs cv w w' := by
  have hgl : g < w.heap.size := (Array.getElem?_eq_some_iff.1 h.1).1
  have hb0 := below_box w (.cells (cells s) 106)
  have hn0 := heap_alloc_new w (.cells (cells s) 106)
  by_cases h0 : refI D at_ = 0
  · obtain ⟨⟨ha1, ha2⟩, hdead⟩ := refI_zero h0
    obtain ⟨n, rfl⟩ := Int.eq_ofNat_of_zero_le ha1
    have HW : Hid (writeD D n s = deedD (pushD D (n, s))) := by show _ = _; unfold writeD; rw [if_neg (by simp [h0])]; rfl
    have HE : Hid (writeE D n = deedE D) := by show _ = _; unfold writeE; rw [if_neg (by simp [h0])]
    have HR := Lib.hid h0
    have H0 : Hid (IsDisk B (w.alloc (.cells (cells s) 106)) g gs cv D) := by
      obtain ⟨k1, k2, k3, k4, k5⟩ := h
      have hgsl : gs < w.heap.size := (Array.getElem?_eq_some_iff.1 k2).1
      exact ⟨(hb0.block g hgl).trans k1, (hb0.block gs hgsl).trans k2, World.ownsRow.alloc k3 _, k4, k5⟩
    have hpp : n < D.secs.length ∧ s.length = 128 ∧ Bytes s := ⟨by omega, hs, hb⟩
    have HP := Lib.hid hpp
    have HH := Lib.hid h
    have hBl : B ≤ w.heap.size := by have := h.2.2.2.2.1; omega
    have HS := Lib.hid hs
    clear h h0 hdead hpp hs hb ha1 ha2
    go_enter Try.func52, Try.ntmps52
    go_wp2_with fail
    refine (drefusal_is (n : Int) H0.out).mono ?_
    rintro e w1 ⟨rfl, hw1⟩
    rw [HR.out]
    have hd1 := H0.out
    rw [hw1] at hd1 hn0 hb0
    have hgl1 : g < w1.heap.size := Nat.lt_of_lt_of_le hgl hb0.size
    have c4 := (head_facts hd1.1).2.2.2.2.1
    have hr0 := range_of hn0
    have hl0 : w.heap.size < w1.heap.size := (Array.getElem?_eq_some_iff.1 hn0).1
    clear hw1
    go_wp2_with fail
    have hu := row_sector
    have hsi : (Try.prog.info? 106).map (·.size) = some (s.map byteV).length := by rw [List.length_map, HS.out]; exact size_sector
    have hone : ∀ v ∈ s.map byteV, v.oneCell' = true := byteV_oneCell s
    have hsl : s.length = 128 := HS.out
    have hfo := fold_write n s hsl
    have hwl : (wrV (n, s)).length = 129 := by rw [wrV_size, hsl]
    have hfo2 := fold_cell (wrV (n, s)) hwl
    have k4 : w1.drew.cell? ⟨g, 4, none⟩ = some cv := c4
    have kr : w1.drew.rangeAt w.heap.size 0 (s.map byteV) := hr0
    have hdd : IsDisk B w1.drew g gs cv D := hd1
    have hBl1 : B ≤ w1.drew.heap.size := Nat.le_trans hBl hb0.size
    have hw1l : w.heap.size < w1.drew.heap.size := hl0
    have hgl2 : g < w1.drew.heap.size := hgl1
    have b2 : Below w1.drew.heap.size w1.drew (w1.drew.alloc (.cells (wrV (n, s)).toArray 130)) := below_box w1.drew _
    have k42 := (b2.cell (p := ⟨g, 4, none⟩) hgl2).trans k4
    have kr2 := ranges_below b2 hw1l kr
    have ho2 : (w1.drew.alloc (.cells (wrV (n, s)).toArray 130)).ownsRow B 130 129 cv D.cache.length (cacheV D.cache) := World.ownsRow.alloc hdd.2.2.1 _
    have hg2 : (w1.drew.alloc (.cells (wrV (n, s)).toArray 130)).heap[w1.heap.size]? = some (.cells (wrV (n, s)).toArray 130 (0, 0)) := heap_alloc_new w1.drew _
    have hf2 := frozen_of_row w1.drew g 4 _ _ hd1.1
    have hne4 := fun k (e : cv.ownBlock = some k) => (own_ne_g hdd k e).1
    have hne5 : ∀ k, cv.ownBlock = some k → k ≠ w.heap.size := fun k e => Nat.ne_of_lt (World.ownsRow.lt HH.out.2.2.1 k e).2
    have hbl2 : B ≤ (w1.drew.alloc (.cells (wrV (n, s)).toArray 130)).heap.size := Nat.le_trans hBl1 b2.size
    have hgnm : w.heap.size ≠ g := Nat.ne_of_gt hgl
    clear c4 hr0 hn0
    have k43 : (w1.alloc (.cells (wrV (n, s)).toArray 130)).drew.cell? ⟨g, 4, none⟩ = some cv := k42
    have hleft : (pushD D (n, s)).left ≤ 9223372036854775807 := hd1.2.2.2.1.2.2.2.2.2.2
    have hdl : (pushD D (n, s)).deeds ≤ 1000000 := Nat.le_of_lt hd
    refine wp_region_noPanic ?_
    refine wp_region_any (by kernel_rfl) ?_
    change wpAny _ _ _ _ _ _ _ (World.drew _)
    refine wpAny_take (i := 0) (v := .pointer (some ⟨g, 0, none⟩)) rfl (by kernel_rfl) (by kernel_rfl) (by kernel_rfl) (fun _ _ _ h => h) (Or.inl ⟨by rfl, by intro w; go_simp⟩) ?_
    try simp only [Act.put, List.setIfInBounds_toArray, List.set_cons_zero, List.set_cons_succ]
    refine wpAny_take (i := 1) (v := .pointer (some ⟨g, 0, none⟩)) rfl (by kernel_rfl) (by kernel_rfl) (by kernel_rfl) (fun _ _ _ h => h) (Or.inl ⟨by rfl, by intro w; go_simp⟩) ?_
    try simp only [Act.put, List.setIfInBounds_toArray, List.set_cons_zero, List.set_cons_succ]
    refine wpAny_take (i := 2) (v := .pointer (some ⟨g, 0, none⟩)) rfl (by kernel_rfl) (by kernel_rfl) (by kernel_rfl) (fun _ _ _ h => h) (Or.inl ⟨by rfl, by intro w; go_simp⟩) ?_
    try simp only [Act.put, List.setIfInBounds_toArray, List.set_cons_zero, List.set_cons_succ]
    refine wpAny_take (i := 3) (v := .pointer (some ⟨g, 4, none⟩)) rfl (by kernel_rfl) (by kernel_rfl) (by kernel_rfl) (fun _ _ _ h => h) (Or.inl ⟨by rfl, by intro w; go_simp⟩) ?_
    try simp only [Act.put, List.setIfInBounds_toArray, List.set_cons_zero, List.set_cons_succ]
    refine wpAny_take (i := 5) (v := .int .i64 (n : Int)) rfl (by kernel_rfl) (by kernel_rfl) (by kernel_rfl) (fun _ _ _ h => h) (Or.inl ⟨by rfl, by intro w; go_simp⟩) ?_
    try simp only [Act.put, List.setIfInBounds_toArray, List.set_cons_zero, List.set_cons_succ]
    refine wpAny_ready (rs := [4, 6]) (by kernel_rfl) (by simp) ?_
    refine AllReady.cons rfl (fun K hK => ?_) (AllReady.cons rfl (fun K hK => ?_) AllReady.nil)
    · go_simp
      refine hK _ _ ?_
      clear hK K
      try simp only [Act.put, List.setIfInBounds_toArray, List.set_cons_zero, List.set_cons_succ]
      refine wpAny_ready (rs := [6]) (by kernel_rfl) (by simp) ?_
      refine AllReady.cons rfl (fun K hK => ?_) AllReady.nil
      rw [if_pos (by rfl)]
      refine wp_load_mid _ _ rfl _ _ rfl _ _ kr hu rfl hsi ?_
      refine hK _ _ ?_
      clear hK K
      try simp only [Act.put, List.setIfInBounds_toArray, List.set_cons_zero, List.set_cons_succ]
      refine wpAny_take (i := 7) (v := .agg (wrV (n, s)).toArray) rfl (by kernel_rfl) (by kernel_rfl) (by kernel_rfl) (fun _ _ _ h => h) (Or.inl ⟨by rfl, by intro w; go_simp⟩) ?_
      try simp only [Act.put, List.setIfInBounds_toArray, List.set_cons_zero, List.set_cons_succ]
      refine wpAny_ready (rs := [8]) (by kernel_rfl) (by simp) ?_
      refine AllReady.cons rfl (fun K hK => ?_) AllReady.nil
      go_simp
      refine hK _ _ ?_
      clear hK K
      try simp only [Act.put, List.setIfInBounds_toArray, List.set_cons_zero, List.set_cons_succ]
      refine wpAny_ready (rs := [9]) (by kernel_rfl) (by simp) ?_
      refine AllReady.cons rfl (fun K hK => ?_) AllReady.nil
      refine step_append_write (by rfl) _ _ (by rfl) B cv D.cache.length (cacheV D.cache) (by rfl) ho2 w1.heap.size (by rfl) (n, s) HS.out hg2 hc hbl2 ?_
      intro v3 w3 ho3 g3 lie3
      obtain ⟨⟨c43, hS⟩, hf3⟩ := write_kept g3 b2 hgl2 hw1l hne4 hne5 k4 hf2 kr
      obtain ⟨hd3, dk3⟩ := disk_pushed hdd b2 ho3 g3 HP.out hc
      have LIE3 := Lib.hid (lies_of (Nat.le_trans hb0.drew.size b2.size) lie3)
      clear lie3
      obtain ⟨a3, l3, q3, hv3⟩ := own_slice ho3
      subst hv3
      refine hK _ _ ?_
      clear hK K
      try simp only [Act.put, List.setIfInBounds_toArray, List.set_cons_zero, List.set_cons_succ]
      refine wpAny_take (i := 10) (v := .pointer (some ⟨g, 0, none⟩)) rfl (by kernel_rfl) (by kernel_rfl) (by kernel_rfl) (fun _ _ _ h => h) (Or.inl ⟨by rfl, by intro w; go_simp⟩) ?_
      try simp only [Act.put, List.setIfInBounds_toArray, List.set_cons_zero, List.set_cons_succ]
      refine wpAny_take (i := 11) (v := .pointer (some ⟨g, 4, none⟩)) rfl (by kernel_rfl) (by kernel_rfl) (by kernel_rfl) (fun _ _ _ h => h) (Or.inl ⟨by rfl, by intro w; go_simp⟩) ?_
      try simp only [Act.put, List.setIfInBounds_toArray, List.set_cons_zero, List.set_cons_succ]
      refine wpAny_ready (rs := [12]) (by kernel_rfl) (by simp) ?_
      refine AllReady.cons rfl (fun K hK => ?_) AllReady.nil
      go_simp
      refine hK _ _ ?_
      clear hK K
      try simp only [Act.put, List.setIfInBounds_toArray, List.set_cons_zero, List.set_cons_succ]
      refine wpAny_done (by kernel_rfl) ?_ _
      refine NoPanic.normal ?_
      go_wp2_with fail
      refine (deed_is hd3.1 hleft hdl).mono ?_
      rintro e w4 ⟨rfl, h4, o4⟩
      go_wp2
      go_ret
      exact ⟨by rw [HE.out]; rfl, ⟨_, by rw [HW.out]; exact hd3.head h4 o4 (deedD_secs _) (deedD_cache _) (deedD_ok hd3.2.2.2.1 hd), LIE3.out⟩, ((DKeeps.of_below hb0.drew).trans dk3).trans (DKeeps.of_g o4)⟩
    · rw [if_pos (by rfl)]
      refine wp_load_mid _ _ rfl _ _ rfl _ _ kr hu rfl hsi ?_
      refine hK _ _ ?_
      clear hK K
      try simp only [Act.put, List.setIfInBounds_toArray, List.set_cons_zero, List.set_cons_succ]
      refine wpAny_take (i := 7) (v := .agg (wrV (n, s)).toArray) rfl (by kernel_rfl) (by kernel_rfl) (by kernel_rfl) (fun _ _ _ h => h) (Or.inl ⟨by rfl, by intro w; go_simp⟩) ?_
      try simp only [Act.put, List.setIfInBounds_toArray, List.set_cons_zero, List.set_cons_succ]
      refine wpAny_ready (rs := [4, 8]) (by kernel_rfl) (by simp) ?_
      refine AllReady.cons rfl (fun K hK => ?_) (AllReady.cons rfl (fun K hK => ?_) AllReady.nil)
      · go_simp
        refine hK _ _ ?_
        clear hK K
        try simp only [Act.put, List.setIfInBounds_toArray, List.set_cons_zero, List.set_cons_succ]
        refine wpAny_ready (rs := [8]) (by kernel_rfl) (by simp) ?_
        refine AllReady.cons rfl (fun K hK => ?_) AllReady.nil
        go_simp
        refine hK _ _ ?_
        clear hK K
        try simp only [Act.put, List.setIfInBounds_toArray, List.set_cons_zero, List.set_cons_succ]
        refine wpAny_ready (rs := [9]) (by kernel_rfl) (by simp) ?_
        refine AllReady.cons rfl (fun K hK => ?_) AllReady.nil
        refine step_append_write (by rfl) _ _ (by rfl) B cv D.cache.length (cacheV D.cache) (by rfl) ho2 w1.heap.size (by rfl) (n, s) HS.out hg2 hc hbl2 ?_
        intro v3 w3 ho3 g3 lie3
        obtain ⟨⟨c43, hS⟩, hf3⟩ := write_kept g3 b2 hgl2 hw1l hne4 hne5 k4 hf2 kr
        obtain ⟨hd3, dk3⟩ := disk_pushed hdd b2 ho3 g3 HP.out hc
        have LIE3 := Lib.hid (lies_of (Nat.le_trans hb0.drew.size b2.size) lie3)
        clear lie3
        obtain ⟨a3, l3, q3, hv3⟩ := own_slice ho3
        subst hv3
        refine hK _ _ ?_
        clear hK K
        try simp only [Act.put, List.setIfInBounds_toArray, List.set_cons_zero, List.set_cons_succ]
        refine wpAny_take (i := 10) (v := .pointer (some ⟨g, 0, none⟩)) rfl (by kernel_rfl) (by kernel_rfl) (by kernel_rfl) (fun _ _ _ h => h) (Or.inl ⟨by rfl, by intro w; go_simp⟩) ?_
        try simp only [Act.put, List.setIfInBounds_toArray, List.set_cons_zero, List.set_cons_succ]
        refine wpAny_take (i := 11) (v := .pointer (some ⟨g, 4, none⟩)) rfl (by kernel_rfl) (by kernel_rfl) (by kernel_rfl) (fun _ _ _ h => h) (Or.inl ⟨by rfl, by intro w; go_simp⟩) ?_
        try simp only [Act.put, List.setIfInBounds_toArray, List.set_cons_zero, List.set_cons_succ]
        refine wpAny_ready (rs := [12]) (by kernel_rfl) (by simp) ?_
        refine AllReady.cons rfl (fun K hK => ?_) AllReady.nil
        go_simp
        refine hK _ _ ?_
        clear hK K
        try simp only [Act.put, List.setIfInBounds_toArray, List.set_cons_zero, List.set_cons_succ]
        refine wpAny_done (by kernel_rfl) ?_ _
        refine NoPanic.normal ?_
        go_wp2_with fail
        refine (deed_is hd3.1 hleft hdl).mono ?_
        rintro e w4 ⟨rfl, h4, o4⟩
        go_wp2
        go_ret
        exact ⟨by rw [HE.out]; rfl, ⟨_, by rw [HW.out]; exact hd3.head h4 o4 (deedD_secs _) (deedD_cache _) (deedD_ok hd3.2.2.2.1 hd), LIE3.out⟩, ((DKeeps.of_below hb0.drew).trans dk3).trans (DKeeps.of_g o4)⟩
      · go_simp
        refine hK _ _ ?_
        clear hK K
        try simp only [Act.put, List.setIfInBounds_toArray, List.set_cons_zero, List.set_cons_succ]
        refine wpAny_ready (rs := [4]) (by kernel_rfl) (by simp) ?_
        refine AllReady.cons rfl (fun K hK => ?_) AllReady.nil
        go_simp
        refine hK _ _ ?_
        clear hK K
        try simp only [Act.put, List.setIfInBounds_toArray, List.set_cons_zero, List.set_cons_succ]
        refine wpAny_ready (rs := [9]) (by kernel_rfl) (by simp) ?_
        refine AllReady.cons rfl (fun K hK => ?_) AllReady.nil
        refine step_append_write (by rfl) _ _ (by rfl) B cv D.cache.length (cacheV D.cache) (by rfl) ho2 w1.heap.size (by rfl) (n, s) HS.out hg2 hc hbl2 ?_
        intro v3 w3 ho3 g3 lie3
        obtain ⟨⟨c43, hS⟩, hf3⟩ := write_kept g3 b2 hgl2 hw1l hne4 hne5 k4 hf2 kr
        obtain ⟨hd3, dk3⟩ := disk_pushed hdd b2 ho3 g3 HP.out hc
        have LIE3 := Lib.hid (lies_of (Nat.le_trans hb0.drew.size b2.size) lie3)
        clear lie3
        obtain ⟨a3, l3, q3, hv3⟩ := own_slice ho3
        subst hv3
        refine hK _ _ ?_
        clear hK K
        try simp only [Act.put, List.setIfInBounds_toArray, List.set_cons_zero, List.set_cons_succ]
        refine wpAny_take (i := 10) (v := .pointer (some ⟨g, 0, none⟩)) rfl (by kernel_rfl) (by kernel_rfl) (by kernel_rfl) (fun _ _ _ h => h) (Or.inl ⟨by rfl, by intro w; go_simp⟩) ?_
        try simp only [Act.put, List.setIfInBounds_toArray, List.set_cons_zero, List.set_cons_succ]
        refine wpAny_take (i := 11) (v := .pointer (some ⟨g, 4, none⟩)) rfl (by kernel_rfl) (by kernel_rfl) (by kernel_rfl) (fun _ _ _ h => h) (Or.inl ⟨by rfl, by intro w; go_simp⟩) ?_
        try simp only [Act.put, List.setIfInBounds_toArray, List.set_cons_zero, List.set_cons_succ]
        refine wpAny_ready (rs := [12]) (by kernel_rfl) (by simp) ?_
        refine AllReady.cons rfl (fun K hK => ?_) AllReady.nil
        go_simp
        refine hK _ _ ?_
        clear hK K
        try simp only [Act.put, List.setIfInBounds_toArray, List.set_cons_zero, List.set_cons_succ]
        refine wpAny_done (by kernel_rfl) ?_ _
        refine NoPanic.normal ?_
        go_wp2_with fail
        refine (deed_is hd3.1 hleft hdl).mono ?_
        rintro e w4 ⟨rfl, h4, o4⟩
        go_wp2
        go_ret
        exact ⟨by rw [HE.out]; rfl, ⟨_, by rw [HW.out]; exact hd3.head h4 o4 (deedD_secs _) (deedD_cache _) (deedD_ok hd3.2.2.2.1 hd), LIE3.out⟩, ((DKeeps.of_below hb0.drew).trans dk3).trans (DKeeps.of_g o4)⟩
  · obtain ⟨r, hr⟩ : ∃ r, refI D at_ = r := ⟨_, rfl⟩
    have HW : Hid (writeD D at_ s = D) := by show _ = _; unfold writeD; rw [if_pos h0]
    have HE : Hid (writeE D at_ = r) := by show _ = _; unfold writeE; rw [if_pos h0, hr]
    rw [hr] at h0
    have HR := Lib.hid hr
    have H0 : Hid (IsDisk B (w.alloc (.cells (cells s) 106)) g gs cv D) := by
      obtain ⟨k1, k2, k3, k4, k5⟩ := h
      have hgsl : gs < w.heap.size := (Array.getElem?_eq_some_iff.1 k2).1
      exact ⟨(hb0.block g hgl).trans k1, (hb0.block gs hgsl).trans k2, World.ownsRow.alloc k3 _, k4, k5⟩
    clear h hr hs hb
    go_enter Try.func52, Try.ntmps52
    go_wp2_with fail
    refine (drefusal_is at_ H0.out).mono ?_
    rintro e w1 ⟨rfl, hw1⟩
    rw [HR.out]
    have hd1 := H0.out
    rw [hw1] at hd1 hb0
    clear hw1
    go_wp2
    go_ret
    exact ⟨by rw [HE.out]; rfl, ⟨_, by rw [HW.out]; exact hd1, .inl rfl⟩, DKeeps.of_below hb0⟩
theorem dwrite_is {B : Nat} {w : World} {g gs : Nat} {cv : Value} {D : DiskD} (h : IsDisk B w g gs cv D) (hd : D.deeds < 1000000) (hc : D.cache.length < 1000000) (at_ : Int) (s : List Nat) (hs : s.length = 128) (hb : Bytes s) :
    Calls Try.prog 52 #[.pointer (some ⟨g, 0, none⟩), .int .i64 at_, .agg (cells s)] w fun e w' => e = .returned (.int .i64 (writeE D at_)) ∧ (∃ cv', IsDisk B w' g gs cv' (writeD D at_ s)) ∧ DKeeps g gs cv w w' :=
  (dwrite_lies h hd hc at_ s hs hb).mono fun _ _ ⟨h1, ⟨cv', h2, _⟩, h3⟩ => ⟨h1, ⟨cv', h2⟩, h3⟩
end Go.Proofs.Ythainmbapikjiaa
