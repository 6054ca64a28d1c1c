/- A write's own cells, as its literal and the literal slice about it make them. -/
import Derived.Test.YtbpklbicbeckdaaGcpagekkc
import Derived.Test.YtbpklbicbeckdaaGicmlcana
import Derived.Deep.MidRow
import Derived.Great.BuildSlice
import Derived.Great.FillDense
namespace Go.Proofs.Ytbpklbicbeckdaa
open Go.RowKit Go.Sort
set_option linter.unusedVariables false
set_option maxRecDepth 100000

theorem wr_info : (Try.prog.info? 120).map (fun i => (i.zero, i.size, i.bytes)) = some (some (.agg (wrV (0, noughts)).toArray), 129, 136) := by kernel_rfl
theorem wr_place : ((match Try.prog.underlying 120 with | some (.struct fs) => fs.toList.mapM (fun f => (Try.prog.info? f.type).map fun i => (f.offset, i.size)) | _ => none) : Option (List (Nat × Nat))) = some [(0, 1), (1, 128)] := by kernel_rfl
theorem wrV_size (p : Nat × List Nat) : (wrV p).length = p.2.length + 1 := by simp [wrV]

theorem build_write (n : Nat) (s : List Nat) (hs : s.length = 128) (w : World) : (Instr.build 120 #[(0, .int .i64 n), (1, .agg (cells s))]).run Try.prog w = .ok (.agg (wrV (n, s)).toArray) w := by
  refine run_build w _ _ _ ?_
  have h1 := wr_info
  have h2 := wr_place
  unfold Program.built
  cases hi : Try.prog.info? 120 with
  | none => simp [hi] at h1
  | some it =>
    simp only [hi, Option.map_some, Option.some.injEq, Prod.mk.injEq] at h1
    cases hu : Try.prog.underlying 120 with
    | none => simp [hu] at h2
    | some d =>
      rw [hu] at h2
      cases d <;> simp only [reduceCtorEq] at h2
      simp only [h1.1, h2]
      have hz : (wrV (0, noughts)).length = 129 := rfl
      have hc : (Value.agg (cells s)).cells.size = 128 := by simp [Value.cells, cells_size, hs]
      have hc1 : (Value.int .i64 n).cells = #[Value.int .i64 n] := rfl
      simp only [Instr.fill, List.getElem?_toArray, List.getElem?_cons_zero, List.getElem?_cons_succ, Value.cells, cells_size, hs, hz, List.size_toArray]
      rw [if_neg (by simp)]
      have e1 : Array.foldl (fun (cs : Array Value) (x : Value × Nat) => cs.setIfInBounds (0 + x.snd) x.fst) (wrV (0, noughts)).toArray (#[Value.int .i64 n]).zipIdx = (wrV (n, noughts)).toArray := by
        simp [wrV]
      rw [e1]
      simp only [List.size_toArray]
      rw [if_neg (by rw [wrV_size]; simp [show noughts.length = 128 from rfl])]
      congr 1
      have e : Array.foldl (fun (cs : Array Value) (x : Value × Nat) => cs.setIfInBounds (1 + x.snd) x.fst) (wrV (n, noughts)).toArray (cells s).zipIdx =
          ((s.map byteV).zipIdx 0).foldl (fun cs (p : Value × Nat) => cs.setIfInBounds (1 + p.2) p.1) (wrV (n, noughts)).toArray := by
        rw [← Array.foldl_toList]
        simp [cells]
      rw [e, fold_splice 1 (s.map byteV) 0 _ (by simp [hs, wrV_size]; decide)]
      apply Array.ext'
      have hn : noughts.length = 128 := rfl
      simp [wrV, hs, hn]

theorem slice_write (p : Nat × List Nat) (hs : p.2.length = 128) (w : World) : (Instr.buildSlice 113 1 #[(0, .agg (wrV p).toArray)]).run Try.prog w = .ok (.slice (some ⟨w.heap.size, 0, none⟩) 1 1) (w.alloc (.cells (wrV p).toArray 120)) := by
  obtain ⟨i0, hi, hz0, hz1, hz2⟩ := info_parts wr_info
  refine run_buildSlice w _ 120 1 _ _ i0 _ Try.underlying113 hi hz0 (by rw [hz1]; decide) (by rw [hz1]; decide) ?_
  rw [hz1]
  have hl : (wrV p).length = 129 := by rw [wrV_size, hs]
  have hw := Great.fill_whole (s := 129) (by decide) [Value.agg (wrV p).toArray] ((Array.range (1 * 129)).map ((Value.agg (wrV (0, noughts)).toArray).cells[· % (Value.agg (wrV (0, noughts)).toArray).cells.size]!)) (by intro v hv; simp only [List.mem_singleton] at hv; subst hv; simp [Value.cells, hl]) (by simp)
  simpa [Value.cells] using hw

/-! ### A step of a drawn region each -/
theorem step_build_write {w : World} {ops : Array Oper} {o : Oper} {a : Act} {K : Act → World → Prop} {Q : Exit → Act → World → Prop} {E : Prop} (hgd : Region.wanted o (yielded ops a.tmps) = true) (x y : Operand)
    (ho : o.op = .build 120 #[(0, x), (1, y)]) (n : Nat) (s : List Nat) (hx : a.eval x = .int .i64 (n : Int)) (hy : a.eval y = .agg (cells s)) (hs : s.length = 128)
    (h : K (a.put o.dst (.agg (wrV (n, s)).toArray)) w) :
    if Region.wanted o (yielded ops a.tmps) = true then Oper.wp Try.prog o a w K Q else E := by
  rw [if_pos hgd]
  unfold Oper.wp execOp
  have e : ((#[(0, x), (1, y)] : Array (Nat × Operand)).map fun (i, x) => (i, a.eval x)) = #[(0, Value.int .i64 (n : Int)), (1, Value.agg (cells s))] := by simp [hx, hy]
  simp only [ho, Sem.run_bind, e, build_write n s hs w, Result.andThen_ok]
  exact h
theorem step_slice_write {w : World} {ops : Array Oper} {o : Oper} {a : Act} {K : Act → World → Prop} {Q : Exit → Act → World → Prop} {E : Prop} (hgd : Region.wanted o (yielded ops a.tmps) = true) (x : Operand)
    (ho : o.op = .buildSlice 113 1 #[(0, x)]) (p : Nat × List Nat) (hx : a.eval x = .agg (wrV p).toArray) (hs : p.2.length = 128)
    (h : ∀ gn w', gn = w.heap.size → w' = w.alloc (.cells (wrV p).toArray 120) → K (a.put o.dst (.slice (some ⟨gn, 0, none⟩) 1 1)) w') :
    if Region.wanted o (yielded ops a.tmps) = true then Oper.wp Try.prog o a w K Q else E := by
  rw [if_pos hgd]
  unfold Oper.wp execOp
  have e : ((#[(0, x)] : Array (Nat × Operand)).map fun (i, x) => (i, a.eval x)) = #[(0, Value.agg (wrV p).toArray)] := by simp [hx]
  simp only [ho, Sem.run_bind, e, slice_write p hs w, Result.andThen_ok]
  exact h _ _ rfl rfl
theorem step_append_write {w : World} {ops : Array Oper} {o : Oper} {a : Act} {K : Act → World → Prop} {Q : Exit → Act → World → Prop} {E : Prop} (hgd : Region.wanted o (yielded ops a.tmps) = true) (s x : Operand)
    (ho : o.op = .call { callee := .builtin .append, args := #[s, x], argTypes := #[113, 113] })
    (B : Nat) (cv : Value) (n : Nat) (xs : List Value) (hs : a.eval s = cv) (hown : w.ownsRow B 120 129 cv n xs) (gn : Nat) (hx : a.eval x = .slice (some ⟨gn, 0, none⟩) 1 1) (p : Nat × List Nat) (hp : p.2.length = 128)
    (hg : w.heap[gn]? = some (.cells (wrV p).toArray 120 (0, 0))) (hn : n < 1000000) (hB : B ≤ w.heap.size)
    (h : ∀ v' w', w'.ownsRow B 120 129 v' (n + 1) (xs ++ wrV p) → w.grownBy w' cv.ownBlock → K (a.put o.dst v') w') :
    if Region.wanted o (yielded ops a.tmps) = true then Oper.wp Try.prog o a w K Q else E := by
  rw [if_pos hgd]
  obtain ⟨i0, hi, hz0, hz1, hz2⟩ := info_parts wr_info
  refine wp_append_own w s x 113 ho B 120 i0 (.agg (wrV (0, noughts)).toArray) 129 136 Try.underlying113 hi hz0 hz1 hz2 rfl (by decide) cv n xs hs hown ⟨gn, 0, none⟩ 1 1 (wrV p) hx (by rw [wrV_size, hp])
      ?_ ?_ (by unfold maxLen; omega) (by omega) hB (fun v' w' h1 h2 _ => h v' w' h1 h2)
  · intro j u hu
    rw [add_none]
    unfold World.cell?
    simp only [hg, List.getElem?_toArray, Nat.zero_add]
    exact hu
  · intro u hu
    simp only [wrV, List.mem_cons] at hu
    rcases hu with rfl | hu
    · rfl
    · exact byteV_oneCell _ u hu

theorem own_ne_g {B : Nat} {w : World} {g gs : Nat} {cv : Value} {D : DiskD} (h : IsDisk B w g gs cv D) (k : Nat) (hk : cv.ownBlock = some k) : k ≠ g ∧ k ≠ gs := by
  obtain ⟨k1, k2, ⟨_, k3⟩, _⟩ := h
  rcases k3 with ⟨rfl, _⟩ | ⟨gc, cap, cur, rfl, _, q, _⟩
  · cases hk
  · simp only [Value.ownBlock, Option.some.injEq] at hk
    subst hk
    constructor
    · rintro rfl; rw [k1] at q; injection q with q; injection q with _ q; exact absurd q (by decide)
    · rintro rfl; rw [k2] at q; injection q with q; injection q with _ q; exact absurd q (by decide)
theorem cacheV_snoc (l : List (Nat × List Nat)) (p : Nat × List Nat) : cacheV (l ++ [p]) = cacheV l ++ wrV p := by simp [cacheV]
def pushD (D : DiskD) (p : Nat × List Nat) : DiskD := { D with cache := D.cache ++ [p] }
theorem disk_pushed {B : Nat} {w w1 w2 : World} {g gs : Nat} {cv v2 : Value} {D : DiskD} {p : Nat × List Nat} (h : IsDisk B w g gs cv D) (b : Below w.heap.size w w1)
    (ho : w2.ownsRow B 120 129 v2 (D.cache.length + 1) (cacheV D.cache ++ wrV p)) (hg : w1.grownBy w2 cv.ownBlock)
    (hp : p.1 < D.secs.length ∧ p.2.length = 128 ∧ Bytes p.2) (hn : D.cache.length < 1000000) :
    IsDisk B (w2.setCell ⟨g, 4, none⟩ v2) g gs v2 (pushD D p) ∧ DKeeps g gs cv w (w2.setCell ⟨g, 4, none⟩ v2) := by
  have hsg := gs_ne_g h
  have hown := own_ne_g h
  obtain ⟨k1, k2, k3, ⟨m1, m2, m3, m4, m5, m6, m7⟩, k5, k6⟩ := h
  have hgl : g < w.heap.size := (Array.getElem?_eq_some_iff.1 k1).1
  have hgsl : gs < w.heap.size := (Array.getElem?_eq_some_iff.1 k2).1
  have hb : ∀ k, k < w.heap.size → cv.ownBlock ≠ some k → w2.heap[k]? = w.heap[k]? := fun k hk hne => (hg.block k (Nat.lt_of_lt_of_le hk b.size) (Ne.symm hne)).trans (b.block k hk)
  have hg2 : w2.heap[g]? = some (.cells (headV D gs cv) 115 (0, 0)) := (hb g hgl (fun e => (hown g e).1 rfl)).trans k1
  have hgs2 : w2.heap[gs]? = some (.cells (secV D.secs).toArray 41 (0, 0)) := (hb gs hgsl (fun e => (hown gs e).2 rfl)).trans k2
  refine ⟨⟨?_, ?_, ?_, ⟨m1, ?_, m3, m4, ?_, m6, m7⟩, k5, k6⟩, ⟨hg.os.trans b.os, hg.tape.trans b.tape, hg.output.trans b.output, ?_, ?_⟩⟩
  · rw [heap_setCell_same w2 g 4 _ _ _ hg2]
    rfl
  · rw [Below.heap_setCell _ _ _ _ hsg]
    exact hgs2
  · show World.ownsRow _ _ _ _ _ (D.cache ++ [p]).length (cacheV (D.cache ++ [p]))
    rw [cacheV_snoc, List.length_append]
    obtain ⟨q1, q2⟩ := ho
    refine ⟨q1, ?_⟩
    rcases q2 with q2 | ⟨gc, cap, cur, hv, q3, q4, rest⟩
    · exact .inl q2
    · refine .inr ⟨gc, cap, cur, hv, q3, ?_, rest⟩
      rw [Below.heap_setCell _ _ _ _ ?_]
      · exact q4
      · rintro rfl; rw [q4] at hg2; injection hg2 with hg2; injection hg2 with _ hg2; exact absurd hg2 (by decide)
  · intro q hq
    rcases List.mem_append.1 hq with hq | hq
    · exact m2 q hq
    · rw [List.mem_singleton.1 hq]; exact hp
  · show (D.cache ++ [p]).length ≤ _
    rw [List.length_append]
    exact hn
  · have := b.size
    have := hg.size
    simp [World.setCell]
    omega
  · intro k hk h1 _ h3
    rw [Below.heap_setCell _ _ _ _ h1]
    exact hb k hk h3
end Go.Proofs.Ytbpklbicbeckdaa
