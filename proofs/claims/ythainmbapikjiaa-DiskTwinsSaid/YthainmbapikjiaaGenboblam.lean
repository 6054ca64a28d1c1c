/- What was flushed stays: plain facts. -/
import Derived.Test.YthainmbapikjiaaGfnhbgloh
namespace Go.Proofs.Ythainmbapikjiaa
open Go.RowKit Go.Sort
set_option linter.unusedVariables false
set_option linter.unusedSimpArgs false
set_option maxRecDepth 100000

/-- The sectors behind k of the writes, of which some were kept. -/
def wantL (c : List (Nat × List Nat)) (ks : List Bool) (secs : List (List Nat)) (k : Nat) : List (List Nat) := settles (keepsZ ((c.zip ks).take k)) secs
theorem want_zero (c : List (Nat × List Nat)) (ks : List Bool) (secs : List (List Nat)) : wantL c ks secs 0 = secs := rfl
theorem want_yes {c : List (Nat × List Nat)} {ks : List Bool} {secs : List (List Nat)} {k a : Nat} {s : List Nat} (hc : c[k]? = some (a, s)) (hk : ks[k]? = some true) : wantL c ks secs (k + 1) = (wantL c ks secs k).set a s := by
  unfold wantL
  rw [zip_take_succ hc hk, keepsZ_snoc, if_pos rfl, settles_snoc]
theorem want_no {c : List (Nat × List Nat)} {ks : List Bool} {secs : List (List Nat)} {k : Nat} {p : Nat × List Nat} (hc : c[k]? = some p) (hk : ks[k]? = some false) : wantL c ks secs (k + 1) = wantL c ks secs k := by
  unfold wantL
  rw [zip_take_succ hc hk, keepsZ_snoc, if_neg (by decide), List.append_nil]
theorem want_out {c : List (Nat × List Nat)} {ks : List Bool} {secs : List (List Nat)} {k : Nat} (hk : ks.length ≤ k) : wantL c ks secs (k + 1) = wantL c ks secs k := by
  unfold wantL
  rw [List.take_of_length_le (by rw [List.length_zip]; omega), List.take_of_length_le (by rw [List.length_zip]; omega)]
theorem want_full (c : List (Nat × List Nat)) (ks : List Bool) (secs : List (List Nat)) (k : Nat) (hk : c.length ≤ k) : wantL c ks secs k = settles (keepsZ (c.zip ks)) secs := by
  unfold wantL
  rw [List.take_of_length_le (by rw [List.length_zip]; omega)]
theorem want_length (c : List (Nat × List Nat)) (ks : List Bool) (secs : List (List Nat)) (k : Nat) : (wantL c ks secs k).length = secs.length := settles_len _ _
/-- What a sector is to be behind one more of the writes. -/
theorem want_at {c : List (Nat × List Nat)} {ks : List Bool} {secs : List (List Nat)} {k a i : Nat} {s X : List Nat} (hc : c[k]? = some (a, s)) (hX : (wantL c ks secs k)[i]? = some X) :
    (wantL c ks secs (k + 1))[i]? = some (if a = i ∧ k < ks.length ∧ ks.getD k false = true then s else X) := by
  have hi := (List.getElem?_eq_some_iff.1 hX).1
  by_cases hk : k < ks.length
  · obtain ⟨b, hb⟩ : ∃ b, ks[k]? = some b := ⟨_, List.getElem?_eq_getElem hk⟩
    have hg : ks.getD k false = b := by rw [List.getD_eq_getElem?_getD, hb]; rfl
    rw [hg]
    cases b with
    | true =>
      rw [want_yes hc hb]
      by_cases e : a = i
      · subst e
        rw [List.getElem?_set_self hi, if_pos ⟨rfl, hk, rfl⟩]
      · rw [List.getElem?_set_ne e, hX, if_neg (fun h => e h.1)]
    | false =>
      rw [want_no hc hb, hX, if_neg (fun h => by cases h.2.2)]
  · rw [want_out (by omega), hX, if_neg (fun h => hk h.2.1)]
/-- Rows that stand apart from a disk are kept by it. -/
theorem OwnsR'.dkeeps2 {B B' : Nat} {w w' : World} {g gs : Nat} {cv v : Value} {D : DiskD} {e : TypeId} {k : Nat} {l : List (List Value)} (h : OwnsR' B w e k v l) (hd : IsDisk B' w g gs cv D) (hk : DKeeps g gs cv w w') (hg : g < B) (hgs : gs < B) (h3 : e ≠ 130) : OwnsR' B w' e k v l := by
  refine owns_same h fun j hj => ?_
  have hlt := h.lt j hj
  obtain ⟨h0, h1', ⟨rfl, _⟩ | ⟨g', cap, cur, rfl, hB, hg', _⟩⟩ := h
  · cases hj
  · have hj' : g' = j := Option.some.inj hj
    subst hj'
    refine hk.block g' hlt.2 (by omega) (by omega) ?_
    intro e9
    obtain ⟨_, ⟨rfl, _⟩ | ⟨g9, c9, cur9, rfl, _, hg9, _⟩⟩ := hd.2.2.1
    · cases e9
    · have : g9 = g' := Option.some.inj e9
      exact nblock hg' hg9 h3 this.symm
theorem IsDisk.lts {B : Nat} {w : World} {g gs : Nat} {cv : Value} {D : DiskD} (h : IsDisk B w g gs cv D) : g < w.heap.size ∧ gs < w.heap.size := ⟨(Array.getElem?_eq_some_iff.1 h.1).1, (Array.getElem?_eq_some_iff.1 h.2.1).1⟩
/-- A disk is kept where rows that aren't its own grow. -/
theorem IsDisk.keptO {B B' : Nat} {w w' : World} {g gs : Nat} {cv v : Value} {D : DiskD} {e : TypeId} {k : Nat} {l : List (List Value)} (h : IsDisk B w g gs cv D) (ho : OwnsR' B' w e k v l) (hg : w.grownBy w' v.ownBlock) (h1 : g < B') (h2 : gs < B') (h3 : e ≠ 130) : IsDisk B w' g gs cv D := by
  have hlt := ho.lt
  obtain ⟨k1, k2, k3, k4, k5, k6⟩ := h
  refine ⟨(hg.block g (Array.getElem?_eq_some_iff.1 k1).1 ?_).trans k1, (hg.block gs (Array.getElem?_eq_some_iff.1 k2).1 ?_).trans k2, k3.kept hg ?_, k4, k5, k6⟩
  · intro e; have := hlt g e.symm; omega
  · intro e; have := hlt gs e.symm; omega
  · obtain ⟨_, ⟨rfl, _⟩ | ⟨g9, c9, cur9, rfl, _, hg9, _⟩⟩ := k3
    · exact .inl rfl
    · right
      obtain ⟨_, _, ⟨rfl, _⟩ | ⟨g8, c8, cur8, rfl, _, hg8, _⟩⟩ := ho
      · intro e; cases e
      · intro e
        have : g9 = g8 := Option.some.inj e
        exact nblock hg8 hg9 h3 this.symm
theorem slice_sectorS (s : List Nat) (hs : s.length = 128) (w : World) : (Instr.buildSlice 123 1 #[(0, .agg (cells s))]).run Try.prog w = .ok (.slice (some ⟨w.heap.size, 0, none⟩) 1 1) (w.alloc (.cells (cells s) 106)) := by
  obtain ⟨i0, hi, hz0, hz1, hz2⟩ := info_parts info_sec
  refine run_buildSlice w _ 106 1 _ _ i0 _ Try.underlying123 hi hz0 (by rw [hz1]; decide) (by rw [hz1]; decide) ?_
  rw [hz1]
  have hl : (cells s).size = 128 := by rw [cells_size, hs]
  have hw := Great.fill_whole (s := 128) (by decide) [Value.agg (cells s)] ((Array.range (1 * 128)).map ((Value.agg (cells noughts)).cells[· % (Value.agg (cells noughts)).cells.size]!)) (by intro v hv; simp only [List.mem_singleton] at hv; subst hv; simp [Value.cells, hl]) (by simp)
  simpa [Value.cells] using hw
theorem wpList_slice_sectorS {ops : Array Oper} {rest : List Oper} {op : Oper} {a : Act} {w : World} {Q : Exit → Act → World → Prop} (hgd : op.guard = none) (x : Operand)
    (ho : op.op = .buildSlice 123 1 #[(0, x)]) (s : List Nat) (hx : a.eval x = .agg (cells s)) (hs : s.length = 128)
    (h : wpList Try.prog ops Q rest (a.put op.dst (.slice (some ⟨w.heap.size, 0, none⟩) 1 1)) (w.alloc (.cells (cells s) 106))) : wpList Try.prog ops Q (op :: rest) a w := by
  refine wpList_plain hgd fun K hK => ?_
  unfold Oper.wp
  unfold execOp
  have e : ((#[(0, x)] : Array (Nat × Operand)).map fun (i, x) => (i, a.eval x)) = #[(0, Value.agg (cells s))] := by simp [hx]
  simp only [ho, Sem.run_bind, e, slice_sectorS s hs w, Result.andThen_ok]
  exact hK _ _ h
theorem step_slice_sectorS {w : World} {ops : Array Oper} {o : Oper} {a : Act} {K : Act → World → Prop} {Q : Exit → Act → World → Prop} {E : Prop} (hgd : Region.wanted o (yielded ops a.tmps) = true) (x : Operand)
    (ho : o.op = .buildSlice 123 1 #[(0, x)]) (s : List Nat) (hx : a.eval x = .agg (cells s)) (hs : s.length = 128)
    (h : K (a.put o.dst (.slice (some ⟨w.heap.size, 0, none⟩) 1 1)) (w.alloc (.cells (cells s) 106))) :
    if Region.wanted o (yielded ops a.tmps) = true then Oper.wp Try.prog o a w K Q else E := by
  rw [if_pos hgd]
  unfold Oper.wp execOp
  have e : ((#[(0, x)] : Array (Nat × Operand)).map fun (i, x) => (i, a.eval x)) = #[(0, Value.agg (cells s))] := by simp [hx]
  simp only [ho, Sem.run_bind, e, slice_sectorS s hs w, Result.andThen_ok]
  exact h
/-- Rows of one's own are kept where rows of another kind grow. -/
theorem OwnsR'.keptO {B B' : Nat} {w w' : World} {v v' : Value} {e e' : TypeId} {k k' : Nat} {l l' : List (List Value)} (h : OwnsR' B w e k v l) (ho : OwnsR' B' w e' k' v' l') (hg : w.grownBy w' v'.ownBlock) (h3 : e ≠ e') : OwnsR' B w' e k v l := by
  refine h.kept hg ?_
  obtain ⟨_, _, ⟨rfl, _⟩ | ⟨g8, c8, cur8, rfl, _, hg8, _⟩⟩ := ho
  · rcases hv : v.ownBlock with _ | j
    · exact .inl rfl
    · exact .inr (by intro e; cases e)
  · obtain ⟨_, _, ⟨rfl, _⟩ | ⟨g9, c9, cur9, rfl, _, hg9, _⟩⟩ := h
    · exact .inl rfl
    · right
      intro e
      have : g9 = g8 := Option.some.inj e
      exact nblock hg9 hg8 h3 this
def pairsV (l : List (Nat × Nat)) : List (List Value) := l.map fun p => [.int .i64 (p.1 : Int), .int .i64 (p.2 : Int)]
theorem reads_oneS {w : World} {g : Nat} {s : List Nat} {t : TypeId} (hs : s.length = 128) (h : w.heap[g]? = some (.cells (cells s) t (0, 0))) : ReadsR w (some ⟨g, 0, none⟩) 128 [s.map byteV] := by
  refine ⟨fun p hp => by simp only [List.mem_singleton] at hp; subst hp; rw [List.length_map, hs], .inr ⟨g, 0, rfl, (Array.getElem?_eq_some_iff.1 h).1, fun i u hu => ?_⟩⟩
  have e : flatR [s.map byteV] = s.map byteV := by simp [flatR]
  rw [e] at hu
  exact range_of h i u hu
theorem one_sec (s : List Nat) : OneRows [s.map byteV] := by
  have h := secR_one [s]
  exact h
/-- A sector of a still disk. -/
theorem readS_still {D : DiskD} (hc : D.cache = []) (hd : D.dead = false) {k : Nat} (hk : k < D.secs.length) : refI D (k : Int) = 0 ∧ D.secs[k]? = some (readS D (k : Int)) := by
  have e : refI D (k : Int) = 0 := by
    unfold refI
    rw [if_neg (by omega), hd]
    rfl
  refine ⟨e, ?_⟩
  unfold readS
  rw [if_neg (by simp [e]), hc]
  show _ = some (readL [] _ _)
  unfold readL
  simp [List.getElem?_eq_getElem hk]
theorem secR_take {X : List (List Nat)} {k : Nat} {S : List Nat} (h : X[k]? = some S) : secR (X.take (k + 1)) = secR (X.take k) ++ [S.map byteV] := by
  unfold secR
  rw [List.take_add_one, h, List.map_append]
  rfl
theorem OwnsR'.other {B b : Nat} {w w' : World} {v : Value} {e t : TypeId} {k : Nat} {l : List (List Value)} {cs : Array Value} (h : OwnsR' B w e k v l) (hn : w.heap[b]? = some (.cells cs t (0, 0))) (hne : e ≠ t) (hg : w.grownBy w' v.ownBlock) : w'.heap[b]? = some (.cells cs t (0, 0)) := by
  refine (hg.block b (Array.getElem?_eq_some_iff.1 hn).1 ?_).trans hn
  intro e9
  rcases own_ne h hn hne with h1 | h1
  · rw [h1] at e9; cases e9
  · exact h1 e9.symm
theorem pairs_snoc (l : List (Nat × Nat)) (p : Nat × Nat) : pairsV (l ++ [p]) = pairsV l ++ [[.int .i64 (p.1 : Int), .int .i64 (p.2 : Int)]] := by unfold pairsV; rw [List.map_append]; rfl
theorem secR_snoc (l : List (List Nat)) (s : List Nat) : secR (l ++ [s]) = secR l ++ [s.map byteV] := by unfold secR; rw [List.map_append]; rfl
/-- What a write does to a disk whose sector is there. -/
theorem write_there {D : DiskD} {A : Nat} (hA : A < D.secs.length) (X : List Nat) : (writeD D A X).secs = D.secs ∧ (writeD D A X).cache = (if D.dead then D.cache else D.cache ++ [(A, X)]) ∧ (writeD D A X).deeds ≤ D.deeds + 1 := by
  refine ⟨?_, ?_, (writeD_bounds D A X).2.2⟩
  · unfold writeD
    split
    · rfl
    · rw [deedD_secs]; rfl
  · have e : refI D (A : Int) = if D.dead then 20 else 0 := by unfold refI; rw [if_neg (by omega)]
    unfold writeD
    rw [e]
    cases D.dead with
    | true => rfl
    | false =>
      rw [if_neg (by decide), deedD_cache]
      rfl
end Go.Proofs.Ythainmbapikjiaa
