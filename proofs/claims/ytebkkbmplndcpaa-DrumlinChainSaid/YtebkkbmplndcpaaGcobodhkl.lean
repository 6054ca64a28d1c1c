/- A disk's Read, told by its walk: the iterator over the cache, backward. A disk's Read: the walk of its caller. -/
import Derived.Test.YtebkkbmplndcpaaGflcibhhl
import Derived.RangeFuncNested
import Derived.RangeFuncBound
import Derived.RangeFuncCalls
import Derived.RangeFuncLeaves
import Derived.RangeFuncBox
import Derived.Shelf.Abstract
import Derived.Shelf.RegionOpen
import Derived.WalkKit
import Derived.OwnWalkIn
import Derived.TacticsInMore
import Derived.LoopNIn
import Derived.LoopIn
import Derived.Deep.MidRow
namespace Go.Proofs.Ytebkkbmplndcpaa
open Go.RowKit Go.Sort
set_option linter.unusedVariables false
set_option linter.unusedSimpArgs false
set_option maxRecDepth 100000
attribute [local go_sem] Oper.semAt_some

theorem wpListIn_load_mid {F : Fence} {n : Nat} {P : Program} {ops : Array Oper} {rest : List Oper} {op : Oper} {a : Act} {w : World} {Q : Exit → Act → World → Prop} (hgd : op.guard = none) (ty : TypeId) (x : Operand) (ho : op.op = .load ty x)
    (b o : Nat) (hx : a.eval x = .pointer (some ⟨b, o, none⟩)) (cs : List Value) (d : TypeDesc) (hc : w.rangeAt b o cs)
    (hu : P.underlying ty = some d) (hd : d.isRow = true) (hi : (P.info? ty).map (·.size) = some cs.length)
    (h : wpListIn F n P ops Q rest (a.put op.dst (.agg cs.toArray)) w) : wpListIn F n P ops Q (op :: rest) a w := by
  refine wpListIn_plain hgd fun K hK => ?_
  unfold Oper.wpIn
  refine ⟨by simp [Oper.about, ho], ?_⟩
  rw [Oper.semAt_eq _ _ _ (by rw [ho]; intro c hc'; cases hc')]
  unfold execOp
  simp only [ho, hx, Instr.loadAt, Instr.sureAddr, Sem.run_bind, Sem.run_pure, Result.andThen_ok, run_loadVar_mid w b o ty cs d hc hu hd hi]
  exact hK _ _ h
theorem wpListIn_store_mid {F : Fence} {n : Nat} {P : Program} {ops : Array Oper} {rest : List Oper} {op : Oper} {a : Act} {w : World} {Q : Exit → Act → World → Prop} (hgd : op.guard = none) (ty : TypeId) (x y : Operand) (ho : op.op = .store ty x y)
    (b o : Nat) (cells : Array Value) (hx : a.eval x = .pointer (some ⟨b, o, none⟩)) (hy : a.eval y = .agg cells)
    (ht : w.there b o cells.size) (hi : (P.info? ty).map (·.size) = some cells.size) (h1 : cells.all (·.oneCell') = true)
    (h : wpListIn F n P ops Q rest (a.put op.dst undef) (w.setCells b o cells.toList)) : wpListIn F n P ops Q (op :: rest) a w := by
  refine wpListIn_plain hgd fun K hK => ?_
  unfold Oper.wpIn
  refine ⟨by simp [Oper.about, ho], ?_⟩
  rw [Oper.semAt_eq _ _ _ (by rw [ho]; intro c hc'; cases hc')]
  unfold execOp
  simp only [ho, hx, hy, Instr.storeAt, Instr.sureAddr, Sem.run_bind, Sem.run_pure, Result.andThen_ok, run_storeVar_mid w b o ty cells ht hi h1]
  exact hK _ _ h

theorem wpListIn_store_row {F : Fence} {n : Nat} {P : Program} {ops : Array Oper} {rest : List Oper} {op : Oper} {a : Act} {w : World} {Q : Exit → Act → World → Prop} (hgd : op.guard = none) (ty : TypeId) (x y : Operand) (ho : op.op = .store ty x y)
    (g : Nat) (cells : Array Value) (hx : a.eval x = .pointer (some ⟨g, 0, none⟩)) (hy : a.eval y = .agg cells)
    (t : TypeId) (old : Array Value) (hg : w.heap[g]? = some (.cells old t (0, 0))) (hi : (P.info? ty).map (·.size) = some cells.size)
    (hold : old.size = cells.size) (h1 : cells.all (·.oneCell') = true)
    (h : wpListIn F n P ops Q rest (a.put op.dst undef) (w.setRow g cells)) : wpListIn F n P ops Q (op :: rest) a w := by
  refine wpListIn_plain hgd fun K hK => ?_
  unfold Oper.wpIn
  refine ⟨by simp [Oper.about, ho], ?_⟩
  rw [Oper.semAt_eq _ _ _ (by rw [ho]; intro c hc'; cases hc')]
  unfold execOp
  simp only [ho, hx, hy, Instr.storeAt, Instr.sureAddr, Sem.run_bind, Sem.run_pure, Result.andThen_ok, run_storeVar_row w g t ty old cells hg hi hold h1]
  exact hK _ _ h

/-- The places, from the end. -/
abbrev Spot (n : Nat) : Type := { i : Nat // i < n }
def downs (n k : Nat) : List Nat := (List.range k).map fun j => n - 1 - j
theorem downs_succ (n k : Nat) : downs n (k + 1) = downs n k ++ [n - 1 - k] := by simp [downs, List.range_succ]
theorem downs_length (n k : Nat) : (downs n k).length = k := by simp [downs]
def encW (zs : List (Nat × List Nat)) (x : Spot zs.length) : Array Value := #[.int .i64 (x.1 : Int), .agg (wrV (zs[x.1]?.getD (0, []))).toArray]

/-- A cache's value holds these writes, below n₀. -/
def CacheIn (n₀ : Nat) (W : World) (cv : Value) (zs : List (Nat × List Nat)) : Prop := (cv = .slice none 0 0 ∧ zs = []) ∨ ∃ gc cap, cv = .slice (some ⟨gc, 0, none⟩) zs.length cap ∧ gc < n₀ ∧ zs.length ≤ cap ∧ cap ≤ maxLen ∧ ∀ j, j < zs.length → W.rangeAt gc (j * 129) (wrV (zs[j]?.getD (0, [])))
theorem CacheIn.below {n₀ : Nat} {A B : World} (h : Below n₀ A B) {cv : Value} {zs : List (Nat × List Nat)} : CacheIn n₀ A cv zs → CacheIn n₀ B cv zs
  | .inl e => .inl e
  | .inr ⟨gc, cap, e, hb, h1, h2, hc⟩ => .inr ⟨gc, cap, e, hb, h1, h2, fun j hj => ranges_below h hb (hc j hj)⟩
end Go.Proofs.Ytebkkbmplndcpaa

namespace Go.Proofs.Ytebkkbmplndcpaa
open Go.RowKit Go.Sort
set_option linter.unusedVariables false
set_option linter.unusedSimpArgs false
set_option maxRecDepth 100000
attribute [local go_sem] Oper.semAt_some

/-- What is read of a cache over what lies on the disk. -/
def readL (c : List (Nat × List Nat)) (at_ : Nat) (s : List Nat) : List Nat := c.foldl (fun s p => if p.1 = at_ then p.2 else s) s
def readS (D : DiskD) (at_ : Int) : List Nat := if refI D at_ ≠ 0 then noughts else readL D.cache at_.toNat (D.secs[at_.toNat]?.getD noughts)
theorem readL_snoc (c : List (Nat × List Nat)) (p : Nat × List Nat) (a : Nat) (s : List Nat) : readL (c ++ [p]) a s = if p.1 = a then p.2 else readL c a s := by simp [readL]
theorem readL_none : ∀ (c : List (Nat × List Nat)) (a : Nat) (s : List Nat), (∀ i, i < c.length → (c[i]?.getD (0, [])).1 ≠ a) → readL c a s = s
  | [], _, _, _ => rfl
  | p :: c, a, s, h => by
    have h0 : p.1 ≠ a := h 0 (by simp)
    show readL c a (if p.1 = a then p.2 else s) = s
    rw [if_neg h0]
    exact readL_none c a s fun i hi => h (i + 1) (by simp; omega)
theorem readL_last (c : List (Nat × List Nat)) (a : Nat) (s : List Nat) (k : Nat) (hk : k < c.length) (he : (c[k]?.getD (0, [])).1 = a) (h : ∀ i, k < i → i < c.length → (c[i]?.getD (0, [])).1 ≠ a) : readL c a s = (c[k]?.getD (0, [])).2 := by
  have e : c = c.take (k + 1) ++ c.drop (k + 1) := (List.take_append_drop _ _).symm
  have h1 : readL c a s = readL (c.drop (k + 1)) a (readL (c.take (k + 1)) a s) := by
    unfold readL
    rw [← List.foldl_append, List.take_append_drop]
  rw [h1, readL_none]
  · have e2 : c.take (k + 1) = c.take k ++ [c[k]] := by rw [List.take_add_one, List.getElem?_eq_getElem hk]; rfl
    rw [e2, readL_snoc]
    rw [List.getElem?_eq_getElem hk] at he ⊢
    exact if_pos he
  · intro i hi
    rw [List.length_drop] at hi
    rw [List.getElem?_drop]
    exact h _ (by omega) (by omega)

theorem CacheIn.wider {n m : Nat} {W : World} {cv : Value} {zs : List (Nat × List Nat)} (h : CacheIn n W cv zs) (hm : n ≤ m) : CacheIn m W cv zs := by
  rcases h with h | ⟨gc, cap, e, hb, h⟩
  · exact .inl h
  · exact .inr ⟨gc, cap, e, by omega, h⟩
theorem wpIn_any_post {F : Fence} {n : Nat} {P : Program} {c : Code} {Q : Exit → Act → World → Prop} {a : Act} {w : World} (a' : Act) (w' : World) (h : ∀ Q' : Exit → Act → World → Prop, Q' .normal a' w' → c.wpIn F n P Q' a w) (k : Q .normal a' w') : c.wpIn F n P Q a w := h Q k

theorem grown_row (w : World) (g : Nat) (cs : Array Value) : w.grownBy (w.setRow g cs) (some g) :=
  ⟨rfl, rfl, rfl, by simp, fun k _ hk => setRow_other w g k cs (fun e => hk (by rw [e]))⟩
theorem downs_mem {n k i : Nat} (hk : k ≤ n) : i ∈ downs n k ↔ n - k ≤ i ∧ i < n := by
  unfold downs
  simp only [List.mem_map, List.mem_range]
  constructor
  · rintro ⟨j, hj, rfl⟩; omega
  · rintro ⟨h1, h2⟩; exact ⟨n - 1 - i, by omega, by omega⟩

/-- What the last region of Read reads. -/
def DoneS (D : DiskD) (h g gs n : Nat) (s : List Nat) (W : World) : Prop :=
  W.cell? ⟨h, 0, none⟩ = some (.pointer (some ⟨g, 0, none⟩)) ∧ W.cell? ⟨h + 1, 0, none⟩ = some (.int .i64 n) ∧ W.cell? ⟨g, 3, none⟩ = some (.slice (some ⟨gs, 0, none⟩) D.secs.length D.room) ∧ W.rangeAt gs (n * 128) (s.map byteV) ∧
  W.there (h + 1 + 1) 0 128 ∧ W.cell? ⟨h + 1 + 1 + 1, 0, none⟩ = some (.int .i64 0) ∧ W.frozen? ⟨h + 1 + 1 + 1, 0, none⟩ = false
theorem doneS_row {D : DiskD} {h g gs n : Nat} {s : List Nat} {W : World} (k : DoneS D h g gs n s W) (hg : g < h) (hgs : gs < h) (l : List Value) : DoneS D h g gs n s (W.setCells (h + 1 + 1) 0 l) := by
  obtain ⟨k0, k1, k2, k3, k4, k5, k6⟩ := k
  refine ⟨(setCells_cell (by omega) _ _ _ W).trans k0, (setCells_cell (by omega) _ _ _ W).trans k1, (setCells_cell (by omega) _ _ _ W).trans k2, World.rangeAt_setCells_apart k3 _ _ _ (.inl (by omega)), World.there_setCells k4 _ _ _, (setCells_cell (by omega) _ _ _ W).trans k5, ?_⟩
  exact (World.frozen?_of_block (a := ⟨h + 1 + 1 + 1, 0, none⟩) (setCells_other (h + 1 + 1) (h + 1 + 1 + 1) (by omega) l 0 W)).trans k6
theorem doneS_cell {D : DiskD} {h g gs n : Nat} {s : List Nat} {W : World} (k : DoneS D h g gs n s W) (hg : g < h) (hgs : gs < h) : DoneS D h g gs n s (W.setCell ⟨h + 1 + 1 + 1, 0, none⟩ (.int .i64 0)) := by
  obtain ⟨k0, k1, k2, k3, k4, k5, k6⟩ := k
  have ho : ∀ b o, b ≠ h + 1 + 1 + 1 → (W.setCell ⟨h + 1 + 1 + 1, 0, none⟩ (.int .i64 0)).cell? ⟨b, o, none⟩ = W.cell? ⟨b, o, none⟩ := fun b o hb => World.cell?_of_block (a := ⟨b, o, none⟩) (Below.heap_setCell _ _ _ _ hb)
  refine ⟨(ho _ _ (by omega)).trans k0, (ho _ _ (by omega)).trans k1, (ho _ _ (by omega)).trans k2, fun j v hv => (ho _ _ (by omega)).trans (k3 j v hv), fun j hj => ?_, World.cell?_setCell_same' _ _ _ (by rw [k5]; rfl), by rw [World.frozen?_setCell]; exact k6⟩
  obtain ⟨a1, a2⟩ := k4 j hj
  exact ⟨by rw [ho _ _ (by omega)]; exact a1, by rw [World.frozen?_setCell]; exact a2⟩

end Go.Proofs.Ytebkkbmplndcpaa
