/- What is told of a usage table's segments, as plain lists: what isn't live in the Dirty ones, and the one that is filled most. -/
import Derived.Test.YtplkglepbedhoaaRank
import Derived.Test.YtplkglepbedhoaaSelMath
import Derived.Test.YtplkglepbedhoaaFloatQuo
import Derived.Test.YtplkglepbedhoaaRRank
import Derived.Test.YtplkglepbedhoaaTab4
namespace Go.Proofs.Ytplkglepbedhoaa
open Go.RowKit Go.Sort
set_option linter.unusedVariables false
set_option maxRecDepth 100000

def dirtyU (u : UseD) : Bool := u.state == 1
def halfU (u : UseD) : Bool := u.state == 1 || u.state == 2
def gainAt (room : Int) (us : List UseD) (i : Nat) : Int := match us[i]? with
  | some u => if u.live < room then room - u.live else 0
  | none => 0
def sumG (room : Int) (us : List UseD) (l : List Nat) : Int := (l.map (gainAt room us)).sum
theorem sumG_snoc (room : Int) (us : List UseD) (l : List Nat) (i : Nat) : sumG room us (l ++ [i]) = sumG room us l + gainAt room us i := by
  unfold sumG
  rw [List.map_append, List.sum_append]
  simp
/-- What is told of: what lives is 0 to 5000. -/
def FineU (us : List UseD) : Prop := ∀ u ∈ us, 0 ≤ u.live ∧ u.live ≤ 5000
theorem gainAt_bound {room : Int} {us : List UseD} (h : FineU us) (h0 : 1 ≤ room) (h1 : room ≤ 4096) (i : Nat) : 0 ≤ gainAt room us i ∧ gainAt room us i ≤ 4096 := by
  unfold gainAt
  split
  · rename_i u hu
    have := h u (List.mem_of_getElem? hu)
    split <;> omega
  · omega
theorem sumG_bound {room : Int} {us : List UseD} (h : FineU us) (h0 : 1 ≤ room) (h1 : room ≤ 4096) : ∀ l : List Nat, 0 ≤ sumG room us l ∧ sumG room us l ≤ 4096 * l.length
  | [] => by unfold sumG; simp
  | i :: l => by
    have a := gainAt_bound h h0 h1 i
    have b := sumG_bound h h0 h1 l
    have e : sumG room us (i :: l) = gainAt room us i + sumG room us l := by unfold sumG; simp
    rw [e, List.length_cons]
    omega
theorem sumG_take {room : Int} {us : List UseD} {l : List Nat} {j i : Nat} (h : l[j]? = some i) : sumG room us (l.take (j + 1)) = sumG room us (l.take j) + gainAt room us i := by
  rw [List.take_add_one, h]
  exact sumG_snoc _ _ _ _
/-- What lives in the i-th. -/
def liveAt (us : List UseD) (i : Nat) : Int := match us[i]? with
  | some u => u.live
  | none => 0
theorem liveAt_get {us : List UseD} {i : Nat} {u : UseD} (h : us[i]? = some u) : liveAt us i = u.live := by unfold liveAt; rw [h]
def moreU (us : List UseD) (a b : Nat) : Bool := decide (liveAt us b < liveAt us a)
def worstTo (us : List UseD) (k : Nat) : Int := bestI (pickL (moreU us) (placesL dirtyU us k))
theorem worstTo_no {us : List UseD} {k : Nat} {u : UseD} (h : us[k]? = some u) (hs : dirtyU u = false) : worstTo us (k + 1) = worstTo us k := by unfold worstTo; rw [placesL_no h hs]
theorem pickL_lt {us : List UseD} {k b : Nat} (h : pickL (moreU us) (placesL dirtyU us k) = some b) : b < k := (placesL_mem (pickL_mem h)).1
theorem worstTo_cases (us : List UseD) (k : Nat) : (worstTo us k = -1 ∧ pickL (moreU us) (placesL dirtyU us k) = none) ∨ ∃ b : Nat, b < k ∧ worstTo us k = (b : Int) ∧ pickL (moreU us) (placesL dirtyU us k) = some b := by
  unfold worstTo
  cases h : pickL (moreU us) (placesL dirtyU us k) with
  | none => exact .inl ⟨rfl, rfl⟩
  | some b => exact .inr ⟨b, pickL_lt h, rfl, rfl⟩
theorem worstTo_first {us : List UseD} {k : Nat} {u : UseD} (h : us[k]? = some u) (hs : dirtyU u = true) (h0 : worstTo us k = -1) : worstTo us (k + 1) = (k : Int) := by
  rcases worstTo_cases us k with ⟨_, h1⟩ | ⟨b, _, h1, _⟩
  · unfold worstTo
    rw [placesL_yes h hs, pickL_snoc, h1]
    rfl
  · omega
theorem worstTo_more {us : List UseD} {k b : Nat} {u v : UseD} (h : us[k]? = some u) (hs : dirtyU u = true) (h0 : worstTo us k = (b : Int)) (hv : us[b]? = some v) : worstTo us (k + 1) = if v.live < u.live then (k : Int) else (b : Int) := by
  rcases worstTo_cases us k with ⟨h1, _⟩ | ⟨b', _, h1, h2⟩
  · omega
  · obtain rfl : b' = b := by omega
    unfold worstTo
    rw [placesL_yes h hs, pickL_snoc, h2]
    dsimp only
    have e : moreU us k b' = decide (v.live < u.live) := by unfold moreU; rw [liveAt_get h, liveAt_get hv]
    rw [e]
    by_cases hl : v.live < u.live
    · rw [if_pos (by simpa using hl), if_pos hl]; rfl
    · rw [if_neg (by simpa using hl), if_neg hl]; rfl
/-- A pick of what stands for others. -/
theorem bestL_map {lt lt' : Nat → Nat → Bool} {s : Nat → Nat} {n : Nat} (h : ∀ i j, i < n → j < n → lt i j = lt' (s i) (s j)) : ∀ (l : List Nat) (a : Nat), a < n → (∀ x ∈ l, x < n) → s (bestL lt a l) = bestL lt' (s a) (l.map s)
  | [], a, _, _ => rfl
  | x :: l, a, ha, hl => by
    have hx := hl x (by simp)
    show s (bestL lt (if lt x a then x else a) l) = bestL lt' (if lt' (s x) (s a) then s x else s a) (l.map s)
    rw [← h x a hx ha]
    by_cases hc : lt x a = true
    · rw [if_pos hc, if_pos hc]
      exact bestL_map h l x hx fun y hy => hl y (by simp [hy])
    · rw [if_neg hc, if_neg hc]
      exact bestL_map h l a ha fun y hy => hl y (by simp [hy])
/-- The part of a room that is live, as a word. -/
noncomputable def wordQ (room : Int) (x : Int) : Nat := (Ieee.double.div (floatOfInt .f64 x) (floatOfInt .f64 room)).getD 0
theorem wordQ_is {room x : Int} (h0 : 1 ≤ room) (h1 : room ≤ 4096) (h2 : 0 ≤ x) (h3 : x ≤ 5000) : Ieee.double.div (floatOfInt .f64 x) (floatOfInt .f64 room) = some (wordQ room x) ∧ nanB (wordQ room x) = false ∧ wordQ room x ≤ 9218868437227405312 := by
  obtain ⟨a, rfl⟩ := Int.eq_ofNat_of_zero_le h2
  obtain ⟨r, rfl⟩ := Int.eq_ofNat_of_zero_le (show 0 ≤ room by omega)
  obtain ⟨w, K, w1, w2, w3, w4, w5⟩ := quo_key (a := a) (r := r) (by omega) (by omega) (by omega)
  have e : wordQ (r : Int) (a : Int) = w := by unfold wordQ; rw [w1]; rfl
  rw [e]
  exact ⟨w1, w2, quo_lt (a := a) (r := r) (by omega) (by omega) (by omega) w1⟩
theorem wordQ_less {room x y : Int} (h0 : 1 ≤ room) (h1 : room ≤ 4096) (h2 : 0 ≤ x) (h3 : x < y) (h4 : y ≤ 5000) : keyB (wordQ room x) < keyB (wordQ room y) := by
  have hx := (wordQ_is h0 h1 h2 (by omega : x ≤ 5000)).1
  have hy := (wordQ_is h0 h1 (by omega : 0 ≤ y) h4).1
  obtain ⟨a, rfl⟩ := Int.eq_ofNat_of_zero_le h2
  obtain ⟨b, rfl⟩ := Int.eq_ofNat_of_zero_le (show 0 ≤ y by omega)
  obtain ⟨r, rfl⟩ := Int.eq_ofNat_of_zero_le (show 0 ≤ room by omega)
  exact quo_less (by omega) (by omega) (by omega) (by omega) hx hy
/-- Of two parts with the other sign the less is the one with more that lives. -/
theorem less_neg {room x y : Int} (h0 : 1 ≤ room) (h1 : room ≤ 4096) (h2 : 0 ≤ x) (h3 : x ≤ 5000) (h4 : 0 ≤ y) (h5 : y ≤ 5000) : lessB (negB (wordQ room x)) (negB (wordQ room y)) = decide (y < x) := by
  obtain ⟨_, nx, lx⟩ := wordQ_is h0 h1 h2 h3
  obtain ⟨_, ny, ly⟩ := wordQ_is h0 h1 h4 h5
  obtain ⟨n1, k1⟩ := key_neg (b := wordQ room x) (by omega) nx
  obtain ⟨n2, k2⟩ := key_neg (b := wordQ room y) (by omega) ny
  unfold lessB fltB
  rw [n1, n2, k1, k2]
  simp only [Bool.not_false, Bool.true_and, Bool.false_and, Bool.or_false]
  rw [decide_eq_decide]
  by_cases h : y < x
  · have := wordQ_less h0 h1 h4 h h3
    omega
  · by_cases he : x = y
    · subst he; omega
    · have := wordQ_less h0 h1 h2 (show x < y by omega) h5
      omega
/-- The parts of these segments; with the other sign. -/
noncomputable def partsL (room : Int) (us : List UseD) (l : List Nat) : List Nat := l.map fun i => wordQ room (liveAt us i)
noncomputable def leftL (room : Int) (us : List UseD) (l : List Nat) : List Nat := (partsL room us l).map negB
theorem liveAt_fine {us : List UseD} (h : FineU us) (i : Nat) : 0 ≤ liveAt us i ∧ liveAt us i ≤ 5000 := by
  unfold liveAt
  split
  · rename_i u hu; exact h u (List.mem_of_getElem? hu)
  · omega
theorem pick_left {room : Int} {us : List UseD} (hf : FineU us) (h0 : 1 ≤ room) (h1 : room ≤ 4096) (S : List Nat) (hS : S ≠ []) : ∃ i b : Nat, (rankL (leftL room us S))[0]? = some i ∧ S[i]? = some b ∧ pickL (moreU us) S = some b := by
  have hlen : (leftL room us S).length = S.length := by unfold leftL partsL; simp
  have hpos : 0 < S.length := List.length_pos_iff.2 hS
  have hat : ∀ i b, S[i]? = some b → (leftL room us S)[i]? = some (negB (wordQ room (liveAt us b))) := fun i b h => by
    unfold leftL partsL
    rw [List.getElem?_map, List.getElem?_map, h]
    rfl
  have hlt : ∀ i j, i < S.length → j < S.length → ltF (leftL room us S) i j = moreU us (S.getD i 0) (S.getD j 0) := fun i j hi hj => by
    have e1 : S[i]? = some S[i] := List.getElem?_eq_getElem hi
    have e2 : S[j]? = some S[j] := List.getElem?_eq_getElem hj
    have a := liveAt_fine hf S[i]
    have b := liveAt_fine hf S[j]
    unfold ltF
    rw [hat _ _ e1, hat _ _ e2]
    dsimp only
    rw [less_neg h0 h1 a.1 a.2 b.1 b.2, List.getD_eq_getElem?_getD, List.getD_eq_getElem?_getD, e1, e2]
    rfl
  rw [rank_same]
  unfold rrankL
  rw [hlen]
  have hr : ∃ l, List.range S.length = 0 :: l ∧ ∀ x ∈ l, x < S.length := by
    cases hn : S.length with
    | zero => omega
    | succ n =>
      refine ⟨(List.range n).map Nat.succ, List.range_succ_eq_map, ?_⟩
      intro x hx
      obtain ⟨y, hy, rfl⟩ := List.mem_map.1 hx
      have := List.mem_range.1 hy
      omega
  obtain ⟨l, hl, hlm⟩ := hr
  have hmap : (List.range S.length).map (fun i => S.getD i 0) = S := by
    apply List.ext_getElem?
    intro i
    rw [List.getElem?_map]
    by_cases hi : i < S.length
    · rw [List.getElem?_range hi, List.getElem?_eq_getElem hi]
      simp [List.getD_eq_getElem?_getD, List.getElem?_eq_getElem hi]
    · rw [List.getElem?_eq_none (by rw [List.length_range]; omega), List.getElem?_eq_none (by omega)]
      rfl
  obtain ⟨n, hn⟩ : ∃ n, S.length = n + 1 := ⟨S.length - 1, by omega⟩
  have hb := bestL_map (lt := ltF (leftL room us S)) (lt' := moreU us) (s := fun i => S.getD i 0) (n := S.length) hlt l 0 hpos hlm
  have hin : bestL (ltF (leftL room us S)) 0 l < S.length := by
    rcases bestL_mem (ltF (leftL room us S)) l 0 with h | h
    · rw [h]; exact hpos
    · exact hlm _ h
  refine ⟨bestL (ltF (leftL room us S)) 0 l, S.getD (bestL (ltF (leftL room us S)) 0 l) 0, ?_, ?_, ?_⟩
  · rw [hl, hn]
    rfl
  · rw [List.getD_eq_getElem?_getD, List.getElem?_eq_getElem hin]
    rfl
  · rw [hl, List.map_cons] at hmap
    rw [hb]
    generalize hq : S.getD 0 0 = q at *
    generalize l.map (fun i => S.getD i 0) = m at *
    rw [← hmap]
    rfl
theorem worst_all {room : Int} {us : List UseD} (hf : FineU us) (h0 : 1 ≤ room) (h1 : room ≤ 4096) (hS : inL 1 us ≠ []) : ∃ i b : Nat, (rankL (leftL room us (inL 1 us)))[0]? = some i ∧ (inL 1 us)[i]? = some b ∧ worstTo us us.length = (b : Int) := by
  obtain ⟨i, b, e1, e2, e3⟩ := pick_left hf h0 h1 (inL 1 us) hS
  refine ⟨i, b, e1, e2, ?_⟩
  unfold worstTo
  have : placesL dirtyU us us.length = inL 1 us := rfl
  rw [this, e3]
  rfl
end Go.Proofs.Ytplkglepbedhoaa
