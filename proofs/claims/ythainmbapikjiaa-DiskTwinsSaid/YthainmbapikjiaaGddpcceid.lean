/- A disk's Read, told by its walk: the iterator over the cache, backward. -/
import Derived.Test.YthainmbapikjiaaGhffjbfop
import Derived.RangeFuncNested
import Derived.RangeFuncBound
import Derived.RangeFuncCalls
import Derived.RangeFuncLeaves
import Derived.RangeFuncBox
import Derived.Shelf.Abstract
import Derived.Shelf.RegionOpen
import Derived.WalkKit
import Derived.OwnWalkIn
import Derived.TacticsInMore
import Derived.LoopNIn
import Derived.LoopIn
import Derived.Deep.MidRow
namespace Go.Proofs.Ythainmbapikjiaa
open Go.RowKit Go.Sort
set_option linter.unusedVariables false
set_option linter.unusedSimpArgs false
set_option maxRecDepth 100000
attribute [local go_sem] Oper.semAt_some

theorem wpListIn_load_mid {F : Fence} {n : Nat} {P : Program} {ops : Array Oper} {rest : List Oper} {op : Oper} {a : Act} {w : World} {Q : Exit → Act → World → Prop} (hgd : op.guard = none) (ty : TypeId) (x : Operand) (ho : op.op = .load ty x)
    (b o : Nat) (hx : a.eval x = .pointer (some ⟨b, o, none⟩)) (cs : List Value) (d : TypeDesc) (hc : w.rangeAt b o cs)
    (hu : P.underlying ty = some d) (hd : d.isRow = true) (hi : (P.info? ty).map (·.size) = some cs.length)
    (h : wpListIn F n P ops Q rest (a.put op.dst (.agg cs.toArray)) w) : wpListIn F n P ops Q (op :: rest) a w := by
  refine wpListIn_plain hgd fun K hK => ?_
  unfold Oper.wpIn
  refine ⟨by simp [Oper.about, ho], ?_⟩
  rw [Oper.semAt_eq _ _ _ (by rw [ho]; intro c hc'; cases hc')]
  unfold execOp
  simp only [ho, hx, Instr.loadAt, Instr.sureAddr, Sem.run_bind, Sem.run_pure, Result.andThen_ok, run_loadVar_mid w b o ty cs d hc hu hd hi]
  exact hK _ _ h
theorem wpListIn_store_mid {F : Fence} {n : Nat} {P : Program} {ops : Array Oper} {rest : List Oper} {op : Oper} {a : Act} {w : World} {Q : Exit → Act → World → Prop} (hgd : op.guard = none) (ty : TypeId) (x y : Operand) (ho : op.op = .store ty x y)
    (b o : Nat) (cells : Array Value) (hx : a.eval x = .pointer (some ⟨b, o, none⟩)) (hy : a.eval y = .agg cells)
    (ht : w.there b o cells.size) (hi : (P.info? ty).map (·.size) = some cells.size) (h1 : cells.all (·.oneCell') = true)
    (h : wpListIn F n P ops Q rest (a.put op.dst undef) (w.setCells b o cells.toList)) : wpListIn F n P ops Q (op :: rest) a w := by
  refine wpListIn_plain hgd fun K hK => ?_
  unfold Oper.wpIn
  refine ⟨by simp [Oper.about, ho], ?_⟩
  rw [Oper.semAt_eq _ _ _ (by rw [ho]; intro c hc'; cases hc')]
  unfold execOp
  simp only [ho, hx, hy, Instr.storeAt, Instr.sureAddr, Sem.run_bind, Sem.run_pure, Result.andThen_ok, run_storeVar_mid w b o ty cells ht hi h1]
  exact hK _ _ h

theorem wpListIn_store_row {F : Fence} {n : Nat} {P : Program} {ops : Array Oper} {rest : List Oper} {op : Oper} {a : Act} {w : World} {Q : Exit → Act → World → Prop} (hgd : op.guard = none) (ty : TypeId) (x y : Operand) (ho : op.op = .store ty x y)
    (g : Nat) (cells : Array Value) (hx : a.eval x = .pointer (some ⟨g, 0, none⟩)) (hy : a.eval y = .agg cells)
    (t : TypeId) (old : Array Value) (hg : w.heap[g]? = some (.cells old t (0, 0))) (hi : (P.info? ty).map (·.size) = some cells.size)
    (hold : old.size = cells.size) (h1 : cells.all (·.oneCell') = true)
    (h : wpListIn F n P ops Q rest (a.put op.dst undef) (w.setRow g cells)) : wpListIn F n P ops Q (op :: rest) a w := by
  refine wpListIn_plain hgd fun K hK => ?_
  unfold Oper.wpIn
  refine ⟨by simp [Oper.about, ho], ?_⟩
  rw [Oper.semAt_eq _ _ _ (by rw [ho]; intro c hc'; cases hc')]
  unfold execOp
  simp only [ho, hx, hy, Instr.storeAt, Instr.sureAddr, Sem.run_bind, Sem.run_pure, Result.andThen_ok, run_storeVar_row w g t ty old cells hg hi hold h1]
  exact hK _ _ h

theorem size_write : (Try.prog.info? 130).map (·.size) = some 129 := by kernel_rfl
theorem row_write : ∃ d, Try.prog.underlying 130 = some d ∧ d.isRow = true := by
  cases h : Try.prog.underlying 130 with
  | none => exact absurd h (by decide)
  | some d =>
    refine ⟨d, rfl, ?_⟩
    have : (Try.prog.underlying 130).map (·.isRow) = some true := by kernel_rfl
    rw [h] at this
    simpa using this

/-- The places, from the end. -/
abbrev Spot (n : Nat) : Type := { i : Nat // i < n }
def downs (n k : Nat) : List Nat := (List.range k).map fun j => n - 1 - j
theorem downs_succ (n k : Nat) : downs n (k + 1) = downs n k ++ [n - 1 - k] := by simp [downs, List.range_succ]
theorem downs_length (n k : Nat) : (downs n k).length = k := by simp [downs]
def encW (zs : List (Nat × List Nat)) (x : Spot zs.length) : Array Value := #[.int .i64 (x.1 : Int), .agg (wrV (zs[x.1]?.getD (0, []))).toArray]

set_option maxHeartbeats 1600000 in
theorem back1_in (F : Fence) (n : Nat) (h8 : F.fn 132) (hro : F.round = none) (hn : 1 ≤ n) (l Bs n₀ gc cap : Nat) (zs : List (Nat × List Nat)) (hlen : zs.length ≤ 1000000) (hcl : zs.length ≤ cap) (hcm : cap ≤ maxLen) (hb : gc < n₀) (J Jx : List (Spot zs.length) → World → Prop)
    (hY : ∀ pre x W, J pre W → pre.length < zs.length → YieldAt F (n - 1) Try.prog l (encW zs x) W fun e W' =>
      (e = .returned (.bool true) ∧ J (pre ++ [x]) W' ∧ Below n₀ W W') ∨ (e = .returned (.bool false) ∧ Jx (pre ++ [x]) W'))
    (W : World) (hBs : W.cell? ⟨Bs, 0, none⟩ = some (.slice (some ⟨gc, 0, none⟩) zs.length cap)) (hBn : Bs < W.heap.size)
    (hbs : ∀ W', Below n₀ W W' → W'.cell? ⟨Bs, 0, none⟩ = some (.slice (some ⟨gc, 0, none⟩) zs.length cap))
    (hz : ∀ p ∈ zs, p.2.length = 128) (hc : ∀ j, j < zs.length → W.rangeAt gc (j * 129) (wrV (zs[j]?.getD (0, [])))) (h0 : J [] W) :
    CallsIn F n Try.prog 132 #[.func (.yield l) #[] #[], .pointer (some ⟨Bs, 0, none⟩)] W fun e W' => (∃ v, e = .returned v) ∧
      ((∃ ys : List (Spot zs.length), ys.map (·.1) = downs zs.length zs.length ∧ J ys W') ∨ (∃ pre : List (Spot zs.length), (∃ k, k ≤ zs.length ∧ pre.map (·.1) = downs zs.length k) ∧ Jx pre W')) := by
  obtain ⟨d, hd1, hd2⟩ := row_write
  refine callsIn_of_wp Try.func132 rfl h8 ?_ hro
  simp only [Try.ntmps132, List.size_toArray, List.length_cons, List.length_nil, Nat.reduceAdd, Nat.reduceSub, Array.replicate_succ, Array.replicate_zero, List.push_toArray, List.append_toArray, List.nil_append, List.cons_append]
  unfold maxLen at hcm
  have hcs := hbs W (Below.refl _ _)
  gi_wp2
  gi_loopw [3] (fun i wr => ∃ k : Nat, k ≤ zs.length ∧ i = .int .i64 ((zs.length : Int) - 1 - k) ∧ (∃ pre : List (Spot zs.length), pre.map (·.1) = downs zs.length k ∧ J pre wr) ∧ Below n₀ W wr)
    (fun i _ => (intOf i + 1).toNat)
  case atStart => exact ⟨0, Nat.zero_le _, by simp, ⟨[], rfl, h0⟩, Below.refl _ _⟩
  case round =>
    obtain ⟨k, hk, rfl, ⟨pre, hpre, hJs⟩, hnx⟩ := hrel
    have hcs2 := hbs wr hnx
    by_cases hlt : k < zs.length
    · have hds := downs_succ zs.length k
      obtain ⟨m, hm⟩ : ∃ m, zs.length - 1 - k = m := ⟨_, rfl⟩
      rw [hm] at hds
      have hmm : m < zs.length := by omega
      have hie : ((zs.length : Int) - 1 - k) = (m : Int) := by omega
      clear hm
      obtain ⟨x, hx⟩ : ∃ x : Spot zs.length, x.1 = m := ⟨⟨m, hmm⟩, rfl⟩
      obtain ⟨fn, tmps, assign, body, hy, hR⟩ := hY pre x wr hJs (by rw [← List.length_map (f := (·.1)), hpre, downs_length]; exact hlt)
      have hi0 : (0 : Int) ≤ (m : Int) ∧ (m : Int) < zs.length := by omega
      have hrg : wr.rangeAt gc (m * 129) (wrV (zs[m]?.getD (0, []))) := ranges_below hnx hb (hc _ hmm)
      have hsz : (wrV (zs[m]?.getD (0, []))).length = 129 := by
        refine wrV_length (hz _ ?_)
        rw [List.getElem?_eq_getElem hmm]
        exact List.getElem_mem _
      dsimp only [encW] at hy
      rw [hx] at hy
      rw [hie]
      have HX := Lib.hid hx
      clear hmm hx
      gi_wp2_with (refine wpListIn_load_mid rfl 130 _ rfl gc (m * 129) (by go_simp) (wrV (zs[m]?.getD (0, []))) d hrg hd1 hd2 (by rw [hsz]; exact size_write) ?_)
      refine hR.mono ?_
      rintro e W3 (⟨rfl, hJ3, hk3⟩ | ⟨rfl, hJx3⟩)
      · gi_wp2
        go_roundw
        case rel => exact ⟨k + 1, by omega, by (try simp) <;> (try omega), ⟨_, by rw [List.map_append, hpre, hds, ← HX.out]; rfl, hJ3⟩, hnx.trans hk3⟩
        case measure => (simp [intOf]; try omega)
      · gi_wp2
        refine bodyPost_ret (results_none rfl _ _ _) rfl ?_
        exact ⟨⟨_, rfl⟩, .inr ⟨_, ⟨k + 1, by omega, by rw [List.map_append, hpre, hds, ← HX.out]; rfl⟩, hJx3⟩⟩
    · obtain rfl : k = zs.length := by omega
      gi_wp2
      go_end0
      exact ⟨⟨_, rfl⟩, .inl ⟨_, hpre, hJs⟩⟩

/-- A cache's value holds these writes, below n₀. -/
def CacheIn (n₀ : Nat) (W : World) (cv : Value) (zs : List (Nat × List Nat)) : Prop := (cv = .slice none 0 0 ∧ zs = []) ∨ ∃ gc cap, cv = .slice (some ⟨gc, 0, none⟩) zs.length cap ∧ gc < n₀ ∧ zs.length ≤ cap ∧ cap ≤ maxLen ∧ ∀ j, j < zs.length → W.rangeAt gc (j * 129) (wrV (zs[j]?.getD (0, [])))
theorem CacheIn.below {n₀ : Nat} {A B : World} (h : Below n₀ A B) {cv : Value} {zs : List (Nat × List Nat)} : CacheIn n₀ A cv zs → CacheIn n₀ B cv zs
  | .inl e => .inl e
  | .inr ⟨gc, cap, e, hb, h1, h2, hc⟩ => .inr ⟨gc, cap, e, hb, h1, h2, fun j hj => ranges_below h hb (hc j hj)⟩
theorem cache_in {B : Nat} {w : World} {g gs : Nat} {cv : Value} {D : DiskD} (h : IsDisk B w g gs cv D) : CacheIn w.heap.size w cv D.cache := by
  obtain ⟨h1, h2, ⟨h3, h4⟩, h5, _, _⟩ := h
  rcases h4 with ⟨rfl, hn⟩ | ⟨gc, cap, cur, rfl, hB, hg, hc, hm, hs, ht⟩
  · refine .inl ⟨rfl, ?_⟩
    cases hD : D.cache with
    | nil => rfl
    | cons x xs => rw [hD] at hn; simp at hn
  · refine .inr ⟨gc, cap, rfl, (Array.getElem?_eq_some_iff.1 hg).1, hc, hm, fun j hj u v hu => ?_⟩
    have hp : D.cache[j]? = some D.cache[j] := List.getElem?_eq_getElem hj
    rw [hp] at hu
    have hv := flat_at wrV 129 D.cache h5.wr j _ hp u v hu
    have hj2 : u < 129 := by have := (List.getElem?_eq_some_iff.1 hu).1; rw [Option.getD_some, wrV_length (h5.2.1 _ (List.mem_of_getElem? hp)).2.1] at this; exact this
    rw [show D.cache.flatMap wrV = cacheV D.cache from rfl, ← ht, List.getElem?_take, if_pos (by omega)] at hv
    simpa [World.cell?, hg] using hv

set_option maxHeartbeats 1000000 in
theorem back0_in (F : Fence) (n : Nat) (h8 : F.fn 132) (hro : F.round = none) (l Bs : Nat) {α : Type} (J : List α → World → Prop) (W : World) (hBs : W.cell? ⟨Bs, 0, none⟩ = some (.slice none 0 0)) (h0 : J [] W) :
    CallsIn F n Try.prog 132 #[.func (.yield l) #[] #[], .pointer (some ⟨Bs, 0, none⟩)] W fun e W' => (∃ v, e = .returned v) ∧ J [] W' := by
  refine callsIn_of_wp Try.func132 rfl h8 ?_ hro
  simp only [Try.ntmps132, List.size_toArray, List.length_cons, List.length_nil, Nat.reduceAdd, Nat.reduceSub, Array.replicate_succ, Array.replicate_zero, List.push_toArray, List.append_toArray, List.nil_append, List.cons_append]
  gi_wp2
  gi_loopw [3] (fun i wr => i = .int .i64 (-1) ∧ J [] wr) (fun _ _ => 0)
  case atStart => exact ⟨rfl, h0⟩
  case round =>
    obtain ⟨rfl, hJs⟩ := hrel
    gi_wp2
    go_end0
    exact ⟨⟨_, rfl⟩, hJs⟩
set_option maxHeartbeats 1000000 in
theorem back_in (F : Fence) (n : Nat) (h5 : F.fn 115) (hro : F.round = none) (cv : Value) (hcv : ∃ a l c, cv = .slice a l c) (w : World) :
    CallsIn F n Try.prog 115 #[cv] w fun e w' => e = .returned (.func (.func 132) #[] #[.pointer (some ⟨w.heap.size, 0, none⟩)]) ∧ w' = w.alloc (.cells #[cv] 124) := by
  obtain ⟨a, ln, cp, rfl⟩ := hcv
  refine callsIn_of_wp Try.func115 rfl h5 ?_ hro
  simp only [Try.ntmps115, List.size_toArray, List.length_cons, List.length_nil, Nat.reduceAdd, Nat.reduceSub, Array.replicate_succ, Array.replicate_zero, List.push_toArray, List.append_toArray, List.nil_append, List.cons_append]
  gi_wp2
  go_ret
  exact ⟨rfl, rfl⟩
theorem back_stops (F : Fence) (n : Nat) (h8 : F.fn 132) (hro : F.round = none) (hn : 1 ≤ n) (Bs n₀ : Nat) (cv : Value) (zs : List (Nat × List Nat)) (hlen : zs.length ≤ 1000000) (hz : ∀ p ∈ zs, p.2.length = 128) (w : World) (hBs : Bs < w.heap.size) (hn₀ : n₀ ≤ w.heap.size) (hb0 : Bs < n₀)
    (hc : w.cell? ⟨Bs, 0, none⟩ = some cv) (hI : CacheIn n₀ w cv zs) :
    SeqStopsK F n Try.prog 132 #[.pointer (some ⟨Bs, 0, none⟩)] (encW zs) (Below n₀) (fun ys => ys.map (·.1) = downs zs.length zs.length)
      (fun pre => ∃ k, k ≤ zs.length ∧ pre.map (·.1) = downs zs.length k) zs.length w := fun l J Jx W hW _ _ hY h0 => by
  have hc' := (hW.cell (p := ⟨Bs, 0, none⟩) hBs).trans hc
  rcases hI.below (hW.mono hn₀) with ⟨rfl, rfl⟩ | ⟨gc, cap, rfl, hb, h1, h2, hcs⟩
  · exact (back0_in F n h8 hro l Bs J W hc' h0).mono fun e W' ⟨he, hj⟩ => ⟨he, .inl ⟨[], rfl, hj⟩⟩
  · exact back1_in F n h8 hro hn l Bs n₀ gc cap zs hlen h1 h2 hb J Jx hY W hc' (Nat.lt_of_lt_of_le hBs hW.size) (fun W' hk => (hk.cell (p := ⟨Bs, 0, none⟩) hb0).trans hc') hz hcs h0
end Go.Proofs.Ythainmbapikjiaa
