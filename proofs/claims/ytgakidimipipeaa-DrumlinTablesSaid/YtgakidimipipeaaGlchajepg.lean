/- The map's slots, ten by ten: the iterator slices.Chunk. -/
import Derived.Test.YtgakidimipipeaaGfcaljkcj
import Derived.RangeFuncNested
import Derived.RangeFuncBound
import Derived.RangeFuncCalls
import Derived.RangeFuncLeaves
import Derived.RangeFuncBox
import Derived.Shelf.Abstract
import Derived.Shelf.RegionOpen
import Derived.WalkKit
import Derived.OwnWalkIn
import Derived.TacticsInMore
import Derived.LoopNIn
import Derived.LoopIn
namespace Go.Proofs.Ytgakidimipipeaa
open Go.RowKit Go.Sort
set_option linter.unusedVariables false
set_option linter.unusedSimpArgs false
set_option maxRecDepth 100000
attribute [local go_sem] Oper.semAt_some

/-- A drawn region that comes to one end: the walk's promise is kept for what follows. -/
theorem wpIn_any_postM {F : Fence} {n : Nat} {P : Program} {c : Code} {Q : Exit → Act → World → Prop} {a : Act} {w : World} (a' : Act) (w' : World) (h : ∀ Q' : Exit → Act → World → Prop, Q' .normal a' w' → c.wpIn F n P Q' a w) (k : Q .normal a' w') : c.wpIn F n P Q a w := h Q k
/-- The two boxes of slices.Chunk are kept. -/
def Keep2 (Bs Bn : Nat) (W W' : World) : Prop := W'.heap[Bs]? = W.heap[Bs]? ∧ W'.heap[Bn]? = W.heap[Bn]?
theorem Keep2.refl (Bs Bn : Nat) (W : World) : Keep2 Bs Bn W W := ⟨rfl, rfl⟩
theorem Keep2.trans {Bs Bn : Nat} {A B C : World} (h : Keep2 Bs Bn A B) (k : Keep2 Bs Bn B C) : Keep2 Bs Bn A C := ⟨k.1.trans h.1, k.2.trans h.2⟩
theorem Keep2.cell1 {Bs Bn : Nat} {W W' : World} (h : Keep2 Bs Bn W W') : W'.cell? ⟨Bs, 0, none⟩ = W.cell? ⟨Bs, 0, none⟩ := by unfold World.cell?; rw [h.1]
theorem Keep2.cell2 {Bs Bn : Nat} {W W' : World} (h : Keep2 Bs Bn W W') : W'.cell? ⟨Bn, 0, none⟩ = W.cell? ⟨Bn, 0, none⟩ := by unfold World.cell?; rw [h.2]
theorem keep2_b {Bs Bn : Nat} {w : World} (h1 : Bs < w.heap.size) (h2 : Bn < w.heap.size) (W : World) (l : Nat) (o o' : Obj) (hl : w.heap.size ≤ l) (h : W.heap[l]? = some o) (_ : o.isCells = false) (_ : o.isWalk = false) : Keep2 Bs Bn W (W.putObj l o') := by
  constructor
  all_goals
    unfold World.putObj
    simp only []
    rw [Array.getElem?_setIfInBounds_ne (by omega)]
abbrev SpotC (m : Nat) : Type := { i : Nat // i < m }
def tens (n : Nat) : Nat := (n + 9) / 10
def encC (gs n : Nat) (x : SpotC (tens n)) : Array Value := #[.slice (some ⟨gs, x.1 * 10 * 4, none⟩) (min 10 (n - x.1 * 10)) (min 10 (n - x.1 * 10))]

set_option maxHeartbeats 1600000 in
theorem chunk1_in (n : Nat) (hn : 1 ≤ n) (l Bs Bn gs N : Nat) (hN : 1 ≤ N) (hN2 : N ≤ 200) (J Jx : List (SpotC (tens N)) → World → Prop)
    (hY : ∀ pre x W, J pre W → pre.length < tens N → YieldAt Fence.wide (n - 1) Try.prog l (encC gs N x) W fun e W' =>
      (e = .returned (.bool true) ∧ J (pre ++ [x]) W' ∧ Keep2 Bs Bn W W') ∨ (e = .returned (.bool false) ∧ Jx (pre ++ [x]) W'))
    (W : World) (hJd : ∀ pre W1, J pre W1 → J pre W1.drew) (hbs : ∀ W', Keep2 Bs Bn W W' → W'.cell? ⟨Bs, 0, none⟩ = some (.slice (some ⟨gs, 0, none⟩) N N))
    (hbn : ∀ W', Keep2 Bs Bn W W' → W'.cell? ⟨Bn, 0, none⟩ = some (.int .i64 10)) (h0 : J [] W) :
    CallsIn Fence.wide n Try.prog 97 #[.func (.yield l) #[] #[], .pointer (some ⟨Bs, 0, none⟩), .pointer (some ⟨Bn, 0, none⟩)] W fun e W' => (∃ v, e = .returned v) ∧
      ((∃ ys : List (SpotC (tens N)), ys.map (·.1) = List.range (tens N) ∧ J ys W') ∨ (∃ pre : List (SpotC (tens N)), Jx pre W')) := by
  refine callsIn_of_wp Try.func97 rfl trivial ?_ rfl
  simp only [Try.ntmps97, List.size_toArray, List.length_cons, List.length_nil, Nat.reduceAdd, Nat.reduceSub, Array.replicate_succ, Array.replicate_zero, List.push_toArray, List.append_toArray, List.nil_append, List.cons_append]
  gi_wp2
  gi_loopw [4] (fun i wr => ∃ k : Nat, k ≤ tens N ∧ i = .int .i64 ((k * 10 : Nat) : Int) ∧ (∃ pre : List (SpotC (tens N)), pre.map (·.1) = List.range k ∧ J pre wr) ∧ Keep2 Bs Bn W wr)
    (fun i _ => (300 - intOf i).toNat)
  case atStart => exact ⟨0, Nat.zero_le _, by simp, ⟨[], rfl, h0⟩, Keep2.refl _ _ _⟩
  case round =>
    obtain ⟨k, hk, rfl, ⟨pre, hpre, hJs⟩, hnx⟩ := hrel
    have hcs2 := hbs wr hnx
    have hcn2 := hbn wr hnx
    by_cases hlt : k < tens N
    · have hkn : k * 10 < N := by unfold tens at hlt; omega
      obtain ⟨x, hx⟩ : ∃ x : SpotC (tens N), x.1 = k := ⟨⟨k, hlt⟩, rfl⟩
      have hlen : pre.length < tens N := by rw [← List.length_map (f := (·.1)), hpre, List.length_range]; exact hlt
      obtain ⟨fn, tmps, assign, body, hy, hR⟩ := hY pre x wr.drew (hJd _ _ hJs) hlen
      dsimp only [encC] at hy
      rw [hx] at hy
      have hcut : (((k * 10 : Nat) : Int) < (N : Int)) := by omega
      have d1 : wr.drew.cell? ⟨Bs, 0, none⟩ = some (.slice (some ⟨gs, 0, none⟩) N N) := hcs2
      have d2 : wr.drew.cell? ⟨Bn, 0, none⟩ = some (.int .i64 10) := hcn2
      have HX := Lib.hid hx
      have HP := Lib.hid hpre
      have HN := Lib.hid hnx
      have HK := Lib.hid hk
      have HLT := Lib.hid hlt
      have HBN := Lib.hid hbn
      clear hx hpre hk hlt hbs hbn hJd hY
      gi_wp2
      refine wpIn_any_postM { tmps := #[.func (.yield l) #[] #[], .pointer (some ⟨Bs, 0, none⟩), .pointer (some ⟨Bn, 0, none⟩), undef, .int .i64 ((k * 10 : Nat) : Int), .int .i64 (min 10 ((N - k * 10 : Nat) : Int)), .int .i64 ((k * 10 : Nat) : Int), .slice (some ⟨gs, 0, none⟩) N N, .int .i64 (N : Int), .bool (decide ((k : Int) * 10 < (N : Int))), u10, u11, u12, .int .i64 10, .slice (some ⟨gs, 0, none⟩) N N, .int .i64 ((k * 10 : Nat) : Int), .slice (some ⟨gs, k * 10 * 4, none⟩) (N - k * 10) (N - k * 10), .int .i64 ((N - k * 10 : Nat) : Int), .int .i64 (min 10 ((N - k * 10 : Nat) : Int)), u19, u20, u21, u22, u23, u24, u25, u26, u27, u28, u29, u30], defers := [] } wr.drew (fun Q hQ => ?_) ?_
      · gi_region
        all_goals exact hQ
      obtain ⟨q, hq⟩ : ∃ q, min 10 (N - k * 10) = q := ⟨_, rfl⟩
      have hqi : min 10 ((N - k * 10 : Nat) : Int) = (q : Int) := by omega
      have hq1 : k * 10 + q ≤ N := by omega
      have hq0 : 0 < q := by omega
      have hqz : ¬ q = 0 := by omega
      have hqn : ¬ k * 10 + q = k * 10 := by omega
      rw [hqi]
      rw [hq] at hy
      clear hq hqi
      obtain ⟨W2, hW2⟩ : ∃ W2, wr.drew = W2 := ⟨_, rfl⟩
      have hB2 : Keep2 Bs Bn wr W2 := by rw [← hW2]; exact ⟨rfl, rfl⟩
      rw [hW2] at hy hR d1 d2 ⊢
      have HB := Lib.hid hB2
      clear hW2 hB2 hJs hcs2 hcn2
      gi_wp2
      refine hR.mono ?_
      rintro e W3 (⟨rfl, hJ3, hk3⟩ | ⟨rfl, hJx3⟩)
      · have hB3 : Keep2 Bs Bn W W3 := (HN.out.trans HB.out).trans hk3
        have c3 := HBN.out W3 hB3
        have HB3 := Lib.hid hB3
        clear hB3 hk3 d1 d2 hy hR
        gi_wp2
        go_roundw
        case rel => exact ⟨k + 1, HLT.out, by (try simp) <;> (try omega), ⟨_, by rw [List.map_append, HP.out, List.range_succ, ← HX.out]; rfl, hJ3⟩, HB3.out⟩
        case measure => (simp [intOf]; try omega)
      · clear d1 d2 hy hR
        gi_wp2
        refine bodyPost_ret (results_none rfl _ _ _) rfl ?_
        exact ⟨⟨_, rfl⟩, .inr ⟨_, hJx3⟩⟩
    · have hke : k = tens N := by omega
      have hge : ¬ ((k * 10 : Nat) : Int) < (N : Int) := by unfold tens at hke; omega
      have HK := Lib.hid hke
      clear hke hk hlt
      gi_wp2
      go_end0
      exact ⟨⟨_, rfl⟩, .inl ⟨_, HK.out ▸ hpre, hJs⟩⟩

set_option maxHeartbeats 1000000 in
theorem chunk_in (n : Nat) (gs N : Nat) (w : World) :
    CallsIn Fence.wide n Try.prog 52 #[.slice (some ⟨gs, 0, none⟩) N N, .int .i64 10] w fun e w' => e = .returned (.func (.func 97) #[] #[.pointer (some ⟨w.heap.size, 0, none⟩), .pointer (some ⟨w.heap.size + 1, 0, none⟩)]) ∧
      w' = (w.alloc (.cells #[.slice (some ⟨gs, 0, none⟩) N N] 24)).alloc (.cells #[.int .i64 10] 3) := by
  refine callsIn_of_wp Try.func52 rfl trivial ?_ rfl
  simp only [Try.ntmps52, List.size_toArray, List.length_cons, List.length_nil, Nat.reduceAdd, Nat.reduceSub, Array.replicate_succ, Array.replicate_zero, List.push_toArray, List.append_toArray, List.nil_append, List.cons_append]
  have c1 : ((w.alloc (.cells #[.slice (some ⟨gs, 0, none⟩) N N] 24)).alloc (.cells #[.int .i64 10] 3)).cell? ⟨w.heap.size + 1, 0, none⟩ = some (.int .i64 10) := by
    have := heap_alloc_new (w.alloc (.cells #[.slice (some ⟨gs, 0, none⟩) N N] 24)) (.cells #[.int .i64 10] 3)
    rw [show (w.alloc (.cells #[.slice (some ⟨gs, 0, none⟩) N N] 24)).heap.size = w.heap.size + 1 by simp] at this
    unfold World.cell?
    rw [this]
    rfl
  gi_wp2
  go_ret
  exact ⟨rfl, rfl⟩

theorem chunk_stops (n : Nat) (hn : 1 ≤ n) (Bs Bn gs N : Nat) (hN : 1 ≤ N) (hN2 : N ≤ 200) (w : World) (hBs : Bs < w.heap.size) (hBn : Bn < w.heap.size)
    (hc : w.cell? ⟨Bs, 0, none⟩ = some (.slice (some ⟨gs, 0, none⟩) N N)) (hd : w.cell? ⟨Bn, 0, none⟩ = some (.int .i64 10)) :
    SeqStopsK Fence.wide n Try.prog 97 #[.pointer (some ⟨Bs, 0, none⟩), .pointer (some ⟨Bn, 0, none⟩)] (encC gs N) (Keep2 Bs Bn) (fun ys => ys.map (·.1) = List.range (tens N))
      (fun pre => True) (tens N) w := fun l J Jx W hW h1 h2 hY h0 => by
  have hc' := (hW.cell (p := ⟨Bs, 0, none⟩) hBs).trans hc
  have hd' := (hW.cell (p := ⟨Bn, 0, none⟩) hBn).trans hd
  refine (chunk1_in n hn l Bs Bn gs N hN hN2 J Jx hY W (fun pre W1 hj => h1 _ _ _ none hj ⟨rfl, rfl, rfl, Nat.le_refl _, fun _ _ _ => rfl⟩ (fun r e => by cases e))
    (fun W' hk => hk.cell1.trans hc') (fun W' hk => hk.cell2.trans hd') h0).mono ?_
  rintro e W' ⟨hv, ⟨ys, hy, hj⟩ | ⟨pre, hj⟩⟩
  · exact ⟨hv, .inl ⟨ys, hy, hj⟩⟩
  · exact ⟨hv, .inr ⟨pre, trivial, hj⟩⟩
end Go.Proofs.Ytgakidimipipeaa
