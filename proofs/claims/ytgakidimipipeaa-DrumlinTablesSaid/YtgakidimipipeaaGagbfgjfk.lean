/- usage.Rank: any numbers in their order, those that are none behind. The best one again and again, by marks of what was taken: plain lists. The document's Rank. -/
import Derived.Test.YtgakidimipipeaaGcgcppfff
import Derived.Test.YtgakidimipipeaaGgnimhfij
import Derived.WalkLawsBesides
import Derived.Test.YtgakidimipipeaaGplgdgmee
import Derived.Deep.LoopGhost
namespace Go.Proofs.Ytgakidimipipeaa
open Go.RowKit Go.Sort
set_option linter.unusedVariables false
set_option linter.unusedSimpArgs false
set_option maxRecDepth 100000

theorem isnan_of (b : Nat) : (FloatKind.f64.format.order b b != some .eq) = nanB b := by
  show (Ieee.double.order b b != some .eq) = nanB b
  cases h : nanB b with
  | true => rw [order_nan b h]; rfl
  | false => rw [order_self b h]; rfl
theorem lss_of (x y : Nat) : (FloatKind.f64.format.order x y == some .lt) = fltB x y := order_lt x y
theorem cell_of_box (w : World) (v : Value) (t : TypeId) : (w.alloc (.cells #[v] t)).cell? ⟨w.heap.size, 0, none⟩ = some v := by
  unfold World.cell?
  rw [heap_alloc_new]
  rfl
def fltsV (l : List Nat) : List Value := l.map fun b => .float .f64 b
theorem fltsV_get {l : List Nat} {i b : Nat} (h : l[i]? = some b) : (fltsV l)[i]? = some (.float .f64 b) := by unfold fltsV; rw [List.getElem?_map, h]; rfl
theorem fltsV_one (l : List Nat) : OneCells (fltsV l) := by
  intro u hu
  unfold fltsV at hu
  rw [List.mem_map] at hu
  obtain ⟨x, _, rfl⟩ := hu
  rfl
def ltF (l : List Nat) (i j : Nat) : Bool := match l[i]?, l[j]? with
  | some x, some y => lessB x y
  | _, _ => false
def rankL (l : List Nat) : List Nat := sortL (ltF l) (List.range l.length)
theorem places_all (l : List Nat) : ∀ k, k ≤ l.length → placesL (fun _ => true) l k = List.range k
  | 0, _ => rfl
  | k + 1, h => by rw [placesL_yes (x := l[k]) (List.getElem?_eq_getElem (by omega)) rfl, places_all l k (by omega), List.range_succ]
def RankPost (w : World) (l : List Nat) (e : Ending) (w' : World) : Prop := ∃ a c, e = .returned (.slice a l.length c) ∧ ReadsV w' a l.length (natV l) ∧ l.length ≤ c ∧ Below w.heap.size w w'
end Go.Proofs.Ytgakidimipipeaa

namespace Go.Proofs.Ytgakidimipipeaa
set_option linter.unusedVariables false

/-- What is left ahead of i: what may be, and was not taken. -/
def remL (c : Nat → Bool) (u : List Bool) (i : Nat) : List Nat := (List.range i).filter fun j => c j && !(u.getD j false)
def bestI : Option Nat → Int
  | none => -1
  | some b => (b : Int)
theorem remL_succ (c : Nat → Bool) (u : List Bool) (i : Nat) : remL c u (i + 1) = remL c u i ++ if c i && !(u.getD i false) then [i] else [] := by
  unfold remL
  rw [List.range_succ, List.filter_append, List.filter_cons, List.filter_nil]
theorem remL_no {c : Nat → Bool} {u : List Bool} {i : Nat} (h : (c i && !(u.getD i false)) = false) : remL c u (i + 1) = remL c u i := by rw [remL_succ, h]; simp
theorem remL_yes {c : Nat → Bool} {u : List Bool} {i : Nat} (h : (c i && !(u.getD i false)) = true) : remL c u (i + 1) = remL c u i ++ [i] := by rw [remL_succ, h]; simp
theorem pickL_snoc (lt : Nat → Nat → Bool) (l : List Nat) (i : Nat) : pickL lt (l ++ [i]) = some (match pickL lt l with | none => i | some b => if lt i b then i else b) := by
  cases l with
  | nil => rfl
  | cons a l =>
    show some (bestL lt a (l ++ [i])) = _
    unfold bestL
    rw [List.foldl_append]
    rfl
theorem pickL_none {lt : Nat → Nat → Bool} {l : List Nat} (h : pickL lt l = none) : l = [] := by
  cases l with
  | nil => rfl
  | cons a l => cases h
theorem bestL_mem (lt : Nat → Nat → Bool) : ∀ (l : List Nat) (a : Nat), bestL lt a l = a ∨ bestL lt a l ∈ l
  | [], a => .inl rfl
  | x :: l, a => by
    have e : bestL lt a (x :: l) = bestL lt (if lt x a then x else a) l := rfl
    rw [e]
    rcases bestL_mem lt l (if lt x a then x else a) with h | h
    · rw [h]
      split
      · right; simp
      · left; rfl
    · right; simp [h]
theorem pickL_mem {lt : Nat → Nat → Bool} {l : List Nat} {b : Nat} (h : pickL lt l = some b) : b ∈ l := by
  cases l with
  | nil => cases h
  | cons a l =>
    have e : bestL lt a l = b := Option.some.inj h
    rcases bestL_mem lt l a with h1 | h1
    · rw [← e, h1]; simp
    · rw [← e]; simp [h1]
theorem remL_mem {c : Nat → Bool} {u : List Bool} {n b : Nat} (h : b ∈ remL c u n) : b < n ∧ c b = true ∧ u.getD b false = false := by
  unfold remL at h
  rw [List.mem_filter, List.mem_range] at h
  have := h.2
  simp at this
  exact ⟨h.1, this.1, by rw [List.getD_eq_getElem?_getD]; exact this.2⟩
theorem remL_increasing (c : Nat → Bool) (u : List Bool) (n : Nat) : (remL c u n).Pairwise (· < ·) := List.Pairwise.filter _ List.pairwise_lt_range
theorem remL_set {c : Nat → Bool} {u : List Bool} {n b : Nat} (hn : n ≤ u.length) (hb : b < n) : remL c (u.set b true) n = (remL c u n).erase b := by
  have hnd : (remL c u n).Nodup := (remL_increasing c u n).imp (fun h => by omega)
  rw [List.Nodup.erase_eq_filter hnd]
  unfold remL
  rw [List.filter_filter]
  apply List.filter_congr
  intro j hj
  rw [List.mem_range] at hj
  rw [List.getD_eq_getElem?_getD, List.getD_eq_getElem?_getD, List.getElem?_set]
  by_cases h : b = j
  · subst h
    simp [show b < u.length by omega]
  · have h2 : (j != b) = true := by simp; exact fun e => h e.symm
    simp [h, h2]
theorem remL_length (c : Nat → Bool) (u : List Bool) (n : Nat) : (remL c u n).length ≤ n := by
  unfold remL
  have := List.length_filter_le (fun j => c j && !(u.getD j false)) (List.range n)
  rwa [List.length_range] at this
theorem selL_done {lt : Nat → Nat → Bool} {k : Nat} {l : List Nat} (h : pickL lt l = none) : selL lt k l = [] := by
  cases k with
  | zero => rfl
  | succ k => rw [selL, h]
theorem selL_next {lt : Nat → Nat → Bool} {k : Nat} {l : List Nat} {b : Nat} (h : pickL lt l = some b) (hk : l.length ≤ k) : ∃ j, k = j + 1 ∧ selL lt k l = b :: selL lt j (l.erase b) ∧ (l.erase b).length ≤ j := by
  have hm := pickL_mem h
  have hp : 0 < l.length := List.length_pos_of_mem hm
  cases k with
  | zero => omega
  | succ j =>
    refine ⟨j, rfl, by rw [selL, h], ?_⟩
    rw [List.length_erase_of_mem hm]
    omega
theorem remL_none (c : Nat → Bool) (n m : Nat) : remL c (List.replicate m false) n = (List.range n).filter c := by
  unfold remL
  apply List.filter_congr
  intro j _
  rw [List.getD_eq_getElem?_getD, List.getElem?_replicate]
  split <;> simp
theorem pick_first {lt : Nat → Nat → Bool} {c : Nat → Bool} {u : List Bool} {i : Nat} (h : pickL lt (remL c u i) = none) (hc : (c i && !(u.getD i false)) = true) : bestI (pickL lt (remL c u (i + 1))) = (i : Int) := by
  rw [remL_yes hc, pickL_snoc, h]; rfl
theorem pick_better {lt : Nat → Nat → Bool} {c : Nat → Bool} {u : List Bool} {i b : Nat} (h : pickL lt (remL c u i) = some b) (hc : (c i && !(u.getD i false)) = true) (hl : lt i b = true) : bestI (pickL lt (remL c u (i + 1))) = (i : Int) := by
  rw [remL_yes hc, pickL_snoc, h]
  simp only [hl, if_true]
  rfl
theorem pick_worse {lt : Nat → Nat → Bool} {c : Nat → Bool} {u : List Bool} {i b : Nat} (h : pickL lt (remL c u i) = some b) (hc : (c i && !(u.getD i false)) = true) (hl : lt i b = false) : bestI (pickL lt (remL c u (i + 1))) = (b : Int) := by
  rw [remL_yes hc, pickL_snoc, h]
  simp only [hl, Bool.false_eq_true, if_false]
  rfl
theorem pick_skip {lt : Nat → Nat → Bool} {c : Nat → Bool} {u : List Bool} {i : Nat} (hc : (c i && !(u.getD i false)) = false) : bestI (pickL lt (remL c u (i + 1))) = bestI (pickL lt (remL c u i)) := by
  rw [remL_no hc]
end Go.Proofs.Ytgakidimipipeaa

namespace Go.Proofs.Ytgakidimipipeaa
open Go.RowKit Go.Sort
set_option linter.unusedVariables false
set_option linter.unusedSimpArgs false
set_option maxRecDepth 100000

def boolV (l : List Bool) : List Value := l.map Value.bool
theorem boolV_get {l : List Bool} {i : Nat} {b : Bool} (h : l[i]? = some b) : (boolV l)[i]? = some (.bool b) := by unfold boolV; rw [List.getElem?_map, h]; rfl
theorem boolV_length (l : List Bool) : (boolV l).length = l.length := by unfold boolV; rw [List.length_map]
theorem boolV_set (l : List Bool) (i : Nat) (b : Bool) : (boolV l).set i (.bool b) = boolV (l.set i b) := by unfold boolV; rw [List.map_set]
theorem info_bool : (Try.prog.info? 4).map (fun i => (i.zero, i.size, i.bytes)) = some (some (.bool false), 1, 1) := by kernel_rfl
theorem run_make_bools (n : Nat) (hn : n ≤ 100000) (w : World) :
    (Instr.makeSlice 81 (.int .i64 (n : Int)) (.int .i64 (n : Int))).run Try.prog w = .ok (.slice (some ⟨w.heap.size, 0, none⟩) n n) (w.alloc (.cells (boolV (List.replicate n false)).toArray 4)) := by
  obtain ⟨i0, hi, hz0, hz1, hz2⟩ := info_parts info_bool
  have hr := run_make (P := Try.prog) w 81 4 i0 (.bool false) Try.underlying81 hi hz0 .i64 .i64 n n (by omega) (by omega) (by rw [hz2]; omega) (by omega)
  simp only [Int.toNat_natCast, hz1, Value.cells] at hr
  have e : madeCells #[Value.bool false] (n * 1) = (boolV (List.replicate n false)).toArray := by
    apply Array.ext_getElem?
    intro k
    unfold madeCells boolV
    rw [Array.getElem?_map, Array.getElem?_range, List.getElem?_toArray, List.getElem?_map, List.getElem?_replicate, Nat.mul_one]
    by_cases hk : k < n
    · rw [if_pos hk, if_pos hk]
      simp only [Option.map_some]
      have : k % (#[Value.bool false] : Array Value).size = 0 := Nat.mod_one k
      rw [this]
      rfl
    · rw [if_neg hk, if_neg hk]; rfl
  rw [e] at hr
  exact hr
theorem made_bools (w : World) (n : Nat) (hn : n ≤ 100000) : OwnsV w.heap.size (w.alloc (.cells (boolV (List.replicate n false)).toArray 4)) 4 (.slice (some ⟨w.heap.size, 0, none⟩) n n) (boolV (List.replicate n false)) := by
  have h := OwnsV.new (w := w) (B := w.heap.size) (e := 4) (boolV (List.replicate n false)).toArray (Nat.le_refl _) (by rw [List.size_toArray, boolV_length, List.length_replicate]; unfold maxLen; omega)
  have e : (boolV (List.replicate n false)).toArray.size = n := by rw [List.size_toArray, boolV_length, List.length_replicate]
  rw [e] at h
  exact h
theorem OwnsV.apart2 {B : Nat} {w : World} {e e' : TypeId} {v v' : Value} {l l' : List Value} (h : OwnsV B w e v l) (h' : OwnsV B w e' v' l') (hne : e ≠ e') : v.ownBlock = none ∨ v.ownBlock ≠ v'.ownBlock := by
  rcases h.2 with ⟨rfl, _⟩ | ⟨g, cap, cur, rfl, _, hg, _⟩
  · left; rfl
  · right
    rcases h'.2 with ⟨rfl, _⟩ | ⟨g', cap', cur', rfl, _, hg', _⟩
    · intro h; cases h
    · intro h
      obtain rfl : g = g' := by simpa [Value.ownBlock] using h
      rw [hg] at hg'
      simp at hg'
      exact hne hg'.2
/-- What the document's loop comes to. -/
def rrankL (l : List Nat) : List Nat := selL (ltF l) l.length (List.range l.length)
theorem rank_same (l : List Nat) : rankL l = rrankL l := by
  have W : Weak (ltF l) (fun i => i < l.length) := by
    have key : ∀ a b, a < l.length → b < l.length → ltF l a b = lessB (l.getD a 0) (l.getD b 0) := by
      intro a b ha hb
      unfold ltF
      rw [List.getElem?_eq_getElem ha, List.getElem?_eq_getElem hb]
      simp [List.getD_eq_getElem?_getD, List.getElem?_eq_getElem ha, List.getElem?_eq_getElem hb]
    refine ⟨?_, ?_, ?_⟩
    · intro a ha
      rw [key a a ha ha]
      exact lessB_irr _
    · intro a b c ha hb hc h1 h2
      rw [key a b ha hb] at h1
      rw [key b c hb hc] at h2
      rw [key a c ha hc]
      exact lessB_tr _ _ _ h1 h2
    · intro a b c ha hb hc h1 h2
      rw [key a b ha hb] at h1
      rw [key b c hb hc] at h2
      rw [key a c ha hc]
      exact lessB_neg _ _ _ h1 h2
  exact sortL_selL W (fun x hx => List.mem_range.1 hx) List.pairwise_lt_range (by rw [List.length_range]; exact Nat.le_refl _)
theorem OwnsV.cell {B : Nat} {w : World} {e : TypeId} {g n c : Nat} {l : List Value} (h : OwnsV B w e (.slice (some ⟨g, 0, none⟩) n c) l) {i : Nat} {x : Value} (hx : l[i]? = some x) : w.cell? ⟨g, i, none⟩ = some x := by
  rcases h.head with ⟨e, _⟩ | ⟨g', cap, e, _, _, _, _, hc⟩
  · cases e
  · obtain ⟨e1, _, _⟩ := Value.slice.inj e
    obtain rfl : g = g' := by simpa using e1
    exact hc i x hx
theorem ReadsV.lit2 {w : World} {g : Nat} (cs : Array Value) (e : TypeId) (hg : w.heap.size = g) : ReadsV (w.alloc (.cells cs e)) (some ⟨g, 0, none⟩) cs.size cs.toList := by
  subst hg
  exact ReadsV.lit w cs e
def RRankPost (w : World) (l : List Nat) (e : Ending) (w' : World) : Prop := ∃ v, e = .returned v ∧ OwnsV w.heap.size w' 3 v (natV l) ∧ Below w.heap.size w w'
def allC (_ : Nat) : Bool := true
end Go.Proofs.Ytgakidimipipeaa
