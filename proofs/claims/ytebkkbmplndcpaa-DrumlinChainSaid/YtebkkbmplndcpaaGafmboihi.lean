/- The fixed fact of layer 1's laws, by its walk. num.Put on bytes that a call owns. 'append(own, make([]byte, m)...)': the compiler's one operation, by a law of its own. -/
import Derived.Test.YtebkkbmplndcpaaGbgmncbfe
import Derived.Laws.CopyOwn
namespace Go.Proofs.Ytebkkbmplndcpaa
open Go.RowKit
set_option linter.unusedVariables false
set_option maxRecDepth 100000

/-! The contracts over plain integers. -/
theorem Reads.of_row {w : World} {g off len : Nat} {l : List Nat} {cur : Array Value} {e0 : TypeId} {fr : Nat × Nat} (hg : w.heap[g]? = some (.cells cur e0 fr)) (hb : Bytes l) (hlen : l.length = len)
    (h : ∀ i, i < len → cur[off + i]? = some (byteV (l.getD i 0))) : Reads w (some ⟨g, off, none⟩) len l := by
  refine ⟨hlen, hb, .inr ⟨g, off, rfl, (Array.getElem?_eq_some_iff.1 hg).1, fun i hi => ?_⟩⟩
  simpa [World.cell?, hg, byteV] using h i hi

end Go.Proofs.Ytebkkbmplndcpaa


namespace Go.Proofs.Ytebkkbmplndcpaa
open Go.RowKit
set_option linter.unusedVariables false
set_option maxRecDepth 100000

theorem putL_length (l : List Nat) (p q n : Nat) (h : p + q ≤ l.length) : (putL l p q n).length = l.length := by
  simp [putL, low_length]; omega
theorem putL_bytes {l : List Nat} (h : Bytes l) (p q n : Nat) : Bytes (putL l p q n) := ((h.take p).append (low_bytes n q)).append (h.drop (p + q))
theorem putL_back (l : List Nat) (p q n : Nat) (h : p + q ≤ l.length) : ((putL l p q n).drop p).take q = low n q := by
  unfold putL
  rw [List.append_assoc, List.drop_left' (by simp; omega), List.take_left' (low_length n q)]

/-- The cells of owned bytes, a number written among them. -/
theorem laid_take {cur : Array Value} {l : List Nat} {p q n : Nat} (h : cur.toList.take l.length = l.map byteV) (hpq : p + q ≤ l.length) : (laid cur p (low n q)).toList.take l.length = (putL l p q n).map byteV := by
  have hlc : l.length ≤ cur.toList.length := by
    have := congrArg List.length h
    simp at this ⊢
    omega
  have e : cur.toList = l.map byteV ++ cur.toList.drop l.length := by
    rw [← h, List.take_append_drop]
  simp only [laid, low_length]
  rw [e]
  simp only [putL, List.map_append, List.map_take, List.map_drop]
  have h1 : (l.map byteV ++ cur.toList.drop l.length).take p = (l.map byteV).take p := List.take_append_of_le_length (by simp; omega)
  have h2 : (l.map byteV ++ cur.toList.drop l.length).drop (p + q) = (l.map byteV).drop (p + q) ++ cur.toList.drop l.length := List.drop_append_of_le_length (by simp; omega)
  rw [h1, h2, ← List.append_assoc, List.take_left' (by simp [low_length]; omega)]

end Go.Proofs.Ytebkkbmplndcpaa
namespace Go.Proofs.Ytebkkbmplndcpaa
open Go.RowKit
set_option linter.unusedVariables false
set_option maxRecDepth 100000
set_option linter.unusedSimpArgs false

theorem zeroCells_u8 (n : Nat) : Builtin.zeroCells #[.int .u8 0] n = (List.replicate n (Value.int .u8 0)).toArray := by
  apply Array.ext'
  simp [Builtin.zeroCells, Nat.mod_one, List.map_const']

theorem add_none' (b off i : Nat) : (⟨b, off, none⟩ : Addr).add i = ⟨b, off + i, none⟩ := by unfold Addr.add; split <;> simp_all
theorem wrap_small (m : Nat) (h : m ≤ 100000) : IntKind.i64.wrap (m : Int) = m := by
  simp only [IntKind.wrap, IntKind.bits, IntKind.signed]
  simp
  omega

theorem run_append_zeros2 (w : World) (ty : TypeId) (B : Nat) (v : Value) (l : List Nat) (hown : Owns B w v l) (m : Nat) (hm : l.length + m ≤ 100000) (hB : B ≤ w.heap.size) :
    ∃ v' w', (Builtin.append_ #[63, 3] ty #[v, .int .i64 (m : Nat)]).run Try.prog w = .ok v' w' ∧ Owns B w' v' (l ++ List.replicate m 0) ∧ w.grownBy w' v.ownBlock ∧ w.heap.size ≤ w'.heap.size ∧ (∀ k, v'.ownBlock = some k → v.ownBlock = some k ∨ w.heap.size ≤ k) := by
  obtain ⟨i0, hi, hz0, hz1, hz2⟩ := info_parts info_u8
  have hwr := wrap_small m (by omega)
  have hneg : ¬ ((m : Int) < 0) := by omega
  have hbig : ¬ (281474976710656 < (m : Int)) := by omega
  have hbytes : Bytes (l ++ List.replicate m 0) := hown.1.append (by intro x hx; have := List.eq_of_mem_replicate hx; omega)
  have hmap : (l ++ List.replicate m 0).map byteV = l.map byteV ++ List.replicate m (Value.int .u8 0) := by simp [byteV]
  have hll : (l ++ List.replicate m 0).length = l.length + m := by simp
  obtain ⟨hb, hlen, h⟩ := hown
  have grown : ∀ (old : Nat) (row : Option Nat), old < l.length + m →
      Owns B (w.drew.alloc (.cells ((l.map byteV).toArray ++ (List.replicate m (Value.int .u8 0)).toArray ++ Builtin.zeroCells #[.int .u8 0] (grownCap w (l.length + m) old 5 - (l.length + m))) 5))
        (.slice (some ⟨w.heap.size, 0, none⟩) (l.length + m) (grownCap w (l.length + m) old 5)) (l ++ List.replicate m 0) ∧
      w.grownBy (w.drew.alloc (.cells ((l.map byteV).toArray ++ (List.replicate m (Value.int .u8 0)).toArray ++ Builtin.zeroCells #[.int .u8 0] (grownCap w (l.length + m) old 5 - (l.length + m))) 5)) row := by
    intro old row ho
    have hge := grownCap_ge w (l.length + m) old 5
    have hcm := grownCap_le_maxLen w (l.length + m) old 5 (by unfold maxLen; omega)
    refine ⟨⟨hbytes, by simp, .inr ⟨w.heap.size, _, _, by rw [hll], hB, heap_alloc_new w.drew _, by rw [hll]; exact hge, hcm, ?_, ?_⟩⟩, ⟨rfl, rfl, rfl, by simp, fun k hk _ => Below.heap_alloc w.drew _ k hk⟩⟩
    · simp [size_zeroCells]
      omega
    · rw [hmap, hll]
      simp only [Array.toList_append, Nat.mul_one]
      have e : (l.map byteV ++ List.replicate m (Value.int .u8 0)).length = l.length + m := by simp
      rw [← e]
      exact List.take_left
  rcases h with ⟨rfl, hn⟩ | ⟨g, cap, cur, rfl, hbg, hg, hnc, hcm, hcs, ht⟩
  · have hl0 : l = [] := List.length_eq_zero_iff.1 hn
    subst hl0
    by_cases hm0 : m = 0
    · subst hm0
      refine ⟨.slice none 0 0, w, ?_, by simpa using owns_nil B w, ⟨rfl, rfl, rfl, Nat.le_refl _, fun _ _ _ => rfl⟩, Nat.le_refl _, fun k hk => .inl hk⟩
      have hw0 : IntKind.i64.wrap 0 = 0 := by decide
      simp [Builtin.append_, run_underlying Try.underlying63, run_underlying Try.underlying3, sizeOf, typeInfo, hi, hz1, hz2, asInt, asIntOf, Value.cells, hw0]
    · have hmm : ¬ (m ≤ 0) := by omega
      have h63 : ¬ (9223372036854775807 < (m : Int)) := by omega
      have h48 : ¬ (281474976710656 < Builtin.nextslicecap m 0) := by rw [nextslicecap_zero (by omega)]; omega
      have hgr := grown 0 (Value.ownBlock (.slice none 0 0)) (by simp; omega)
      simp only [List.length_nil, Nat.zero_add, List.nil_append, List.map_nil] at hgr ⊢
      refine ⟨_, _, ?_, hgr.1, hgr.2, by simp, fun k hk => .inr (by simp only [Value.ownBlock, Option.some.injEq] at hk; omega)⟩
      simp [Builtin.append_, run_underlying Try.underlying63, run_underlying Try.underlying3, sizeOf, typeInfo, hi, hz1, hz2, asInt, asIntOf, Value.cells, hwr, hneg, hbig, hmm, h63, h48, hm0, zeroValue, hz0, newRow, grownCap, Question.forced, Builtin.firstCells, zeroCells_u8]
  · by_cases hroom : l.length + m ≤ cap
    · have hfit : l.length + 0 + (List.replicate m (Value.int .u8 0)).length ≤ cur.size := by simp; omega
      have hst := run_storeCells_at Try.prog g l.length 5 (List.replicate m (Value.int .u8 0)) 0 cur w hg hfit (by intro x hx; rw [List.eq_of_mem_replicate hx]; rfl)
      simp only [Nat.add_zero, List.length_replicate] at hst
      have hrun : (Builtin.append_ #[63, 3] ty #[.slice (some ⟨g, 0, none⟩) l.length cap, .int .i64 (m : Nat)]).run Try.prog w = .ok (.slice (some ⟨g, 0, none⟩) (l.length + m) cap)
          (w.setRow g (cur.toList.take l.length ++ List.replicate m (Value.int .u8 0) ++ cur.toList.drop (l.length + m)).toArray) := by
        by_cases hm0 : m = 0
        · subst hm0
          have hw0 : IntKind.i64.wrap 0 = 0 := by decide
          have e0 : w.setRow g (cur.toList.take l.length ++ List.replicate 0 (Value.int .u8 0) ++ cur.toList.drop (l.length + 0)).toArray = w := by
            simp
            exact setRow_self w g cur 5 (0, 0) hg
          rw [e0]
          simp [Builtin.append_, run_underlying Try.underlying63, run_underlying Try.underlying3, sizeOf, typeInfo, hi, hz1, hz2, asInt, asIntOf, Value.cells, hw0, hnc, storeCells]
        · have hmm : ¬ (m ≤ 0) := by omega
          simp [Builtin.append_, run_underlying Try.underlying63, run_underlying Try.underlying3, sizeOf, typeInfo, hi, hz1, hz2, asInt, asIntOf, Value.cells, hwr, hneg, hbig, hroom, hm0, hmm, zeroValue, hz0, zeroCells_u8, add_none', hst]
      refine ⟨_, _, hrun, ⟨hbytes, by simp, .inr ⟨g, cap, _, by rw [hll], hbg, setRow_heap w g cur _ _ _ hg, by rw [hll]; exact hroom, hcm, ?_, ?_⟩⟩, ⟨rfl, rfl, rfl, by simp, fun k _ hk => setRow_other w g k _ (fun e => hk (by simp [Value.ownBlock, e]))⟩, by simp, fun k hk => .inl hk⟩
      · simp
        omega
      · rw [hmap, hll, Nat.mul_one] at *
        have ht' : cur.toList.take l.length = l.map byteV := by simpa using ht
        rw [ht']
        have e : (l.map byteV ++ List.replicate m (Value.int .u8 0)).length = l.length + m := by simp
        rw [← e]
        exact List.take_left
    · have hno : ¬ (l.length + m ≤ cap) := hroom
      have h63 : ¬ (9223372036854775807 < ((l.length : Int) + (m : Int))) := by omega
      have hfs : Builtin.nextslicecap (l.length + m) cap * 1 ≤ 281474976710656 := growslice_fits (by omega) (by omega)
      have h48 : ¬ (281474976710656 < Builtin.nextslicecap (l.length + m) cap) := by omega
      have hmm : ¬ (m ≤ 0) := by omega
      have hm0 : ¬ (m = 0) := by omega
      have hgr := grown cap (Value.ownBlock (.slice (some ⟨g, 0, none⟩) l.length cap)) (by omega)
      have holds : ∀ j u, (l.map byteV)[j]? = some u → w.drew.cell? ((⟨g, 0, none⟩ : Addr).add j) = some u := World.ownsRow.cells (base := B) (e := 5) (size := 1) (v := .slice (some ⟨g, 0, none⟩) l.length cap) (n := l.length) ⟨by simp, .inr ⟨g, cap, cur, rfl, hbg, hg, hnc, hcm, hcs, ht⟩⟩ rfl
      have hfo := run_firstCells_some (P := Try.prog) w.drew 1 l.length ⟨g, 0, none⟩ l.length cap (l.map byteV) (by simp) holds
      refine ⟨_, _, ?_, hgr.1, hgr.2, by simp, fun k hk => .inr (by simp only [Value.ownBlock, Option.some.injEq] at hk; omega)⟩
      simp [Builtin.append_, run_underlying Try.underlying63, run_underlying Try.underlying3, sizeOf, typeInfo, hi, hz1, hz2, asInt, asIntOf, Value.cells, hwr, hneg, hbig, hno, h63, h48, hmm, hm0, zeroValue, hz0, newRow, grownCap, Question.forced, zeroCells_u8, hfo]

theorem run_append_zeros (w : World) (ty : TypeId) (B : Nat) (v : Value) (l : List Nat) (hown : Owns B w v l) (m : Nat) (hm : l.length + m ≤ 100000) (hB : B ≤ w.heap.size) :
    ∃ v' w', (Builtin.append_ #[63, 3] ty #[v, .int .i64 (m : Nat)]).run Try.prog w = .ok v' w' ∧ Owns B w' v' (l ++ List.replicate m 0) ∧ w.grownBy w' v.ownBlock := by
  obtain ⟨v', w', h1, h2, h3, _⟩ := run_append_zeros2 w ty B v l hown m hm hB
  exact ⟨v', w', h1, h2, h3⟩

/-- The same, at a step of a region that draws its order. -/
theorem step_append_zeros {w : World} {ops : Array Oper} {o : Oper} {a : Act} {K : Act → World → Prop} {Q : Exit → Act → World → Prop} {E : Prop} (hgd : o.guard = none) (s x : Operand)
    (ho : o.op = .call { callee := .builtin .append, args := #[s, x], argTypes := #[63, 3] })
    (B : Nat) (v : Value) (l : List Nat) (hs : a.eval s = v) (hown : Owns B w v l) (z : Int) (hx : a.eval x = .int .i64 z) (m : Nat) (hz : z = (m : Int)) (hm : l.length + m ≤ 100000) (hB : B ≤ w.heap.size)
    (h : ∀ v' w', Owns B w' v' (l ++ List.replicate m 0) → w.grownBy w' v.ownBlock → K (a.put o.dst v') w') :
    if Region.wanted o (yielded ops a.tmps) = true then Oper.wp Try.prog o a w K Q else E := by
  have hw : Region.wanted o (yielded ops a.tmps) = true := by simp [Region.wanted, hgd]
  rw [if_pos hw]
  subst hz
  obtain ⟨v', w', hr, h1, h2⟩ := run_append_zeros w o.type B v l hown m hm hB
  unfold Oper.wp execOp
  simp only [ho, resolve, invoke, builtin, Sem.run_bind, Sem.run_pure, Result.andThen_ok, List.map_toArray, List.map_cons, List.map_nil, hs, hx, hr]
  exact h v' w' h1 h2
end Go.Proofs.Ytebkkbmplndcpaa
