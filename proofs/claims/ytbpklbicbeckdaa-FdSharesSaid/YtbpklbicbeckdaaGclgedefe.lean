/- Who counts a Ref for each fd has just what is known: plain facts. -/
import Derived.Test.YtbpklbicbeckdaaGmkgbfolj
import Derived.Test.YtbpklbicbeckdaaGojkinich
namespace Go.Proofs.Ytbpklbicbeckdaa
open Go.RowKit Go.Sort
set_option linter.unusedVariables false
set_option linter.unusedSimpArgs false
set_option maxRecDepth 100000

def tot (ss : List (List Int)) (x : Int) : Nat := (ss.map fun ids => ids.count x).sum
theorem tot_nil (x : Int) : tot [] x = 0 := rfl
theorem tot_cons (ids : List Int) (ss : List (List Int)) (x : Int) : tot (ids :: ss) x = ids.count x + tot ss x := by unfold tot; simp
theorem tot_snoc (ss : List (List Int)) (ids : List Int) (x : Int) : tot (ss ++ [ids]) x = tot ss x + ids.count x := by unfold tot; simp
theorem tot_set : ∀ (ss : List (List Int)) (k : Nat) (ids ids' : List Int) (x : Int), ss[k]? = some ids → tot (ss.set k ids') x + ids.count x = tot ss x + ids'.count x
  | [], k, ids, ids', x, h => by simp at h
  | a :: ss, 0, ids, ids', x, h => by
    obtain rfl : a = ids := by simpa using h
    rw [List.set_cons_zero, tot_cons, tot_cons]
    omega
  | a :: ss, k + 1, ids, ids', x, h => by
    have ih := tot_set ss k ids ids' x (by simpa using h)
    rw [List.set_cons_succ, tot_cons, tot_cons]
    omega
theorem tot_le : ∀ (ss : List (List Int)) (x : Int), (∀ ids ∈ ss, ids.length = 8) → tot ss x ≤ ss.length * 8
  | [], x, h => by rw [tot_nil]; exact Nat.zero_le _
  | a :: ss, x, h => by
    have ih := tot_le ss x (fun ids hi => h ids (List.mem_cons_of_mem _ hi))
    have h1 := h a (List.mem_cons_self ..)
    have h2 : a.count x ≤ a.length := List.count_le_length
    rw [tot_cons, List.length_cons]
    omega
theorem tot_pos : ∀ (ss : List (List Int)) (ids : List Int) (x : Int), ids ∈ ss → x ∈ ids → 1 ≤ tot ss x
  | a :: ss, ids, x, h, hx => by
    rw [tot_cons]
    rcases List.mem_cons.1 h with rfl | h
    · have := List.count_pos_iff.2 hx; omega
    · have := tot_pos ss ids x h hx; omega
theorem count_put {ids : List Int} {k : Nat} {id_ : Int} (h : ids[k]? = some (-1)) (y : Int) (hy : 0 ≤ y) : (ids.set k id_).count y = ids.count y + (if id_ = y then 1 else 0) := by
  obtain ⟨hk, e⟩ := List.getElem?_eq_some_iff.1 h
  rw [List.count_set hk, e]
  have h1 : ((-1 : Int) == y) = false := by simp; omega
  rw [h1]
  simp
theorem count_take {ids : List Int} {k : Nat} {x : Int} (h : ids[k]? = some x) (y : Int) (hy : 0 ≤ y) : (ids.set k (-1)).count y + (if x = y then 1 else 0) = ids.count y := by
  obtain ⟨hk, e⟩ := List.getElem?_eq_some_iff.1 h
  rw [List.count_set hk, e]
  have h1 : ((-1 : Int) == y) = false := by simp; omega
  rw [h1]
  by_cases hx : x = y
  · subst hx
    have hm : x ∈ ids := List.mem_of_getElem? h
    have := List.count_pos_iff.2 hm
    simp
    omega
  · have h2 : (x == y) = false := by simp [hx]
    rw [h2]
    simp [hx]
structure Inv (fl : List FileD) (ss : List (List Int)) : Prop where
  len : fl.length = 20
  refs : ∀ (i : Nat) (o : FileD), fl[i]? = some o → o.refs = (tot ss (i : Int) : Int)
  each : ∀ ids ∈ ss, OkS ids ∧ ids.length = 8 ∧ ∀ x ∈ ids, x < 20
  many : 1 ≤ ss.length ∧ ss.length ≤ 6
theorem Inv.few {fl : List FileD} {ss : List (List Int)} (h : Inv fl ss) : FewRefs 100 fl := by
  intro o ho
  obtain ⟨i, hi⟩ := List.getElem?_of_mem ho
  have h1 := h.refs i o hi
  have h2 := tot_le ss (i : Int) (fun ids hd => (h.each ids hd).2.1)
  have h3 := h.many.2
  omega
/-- What is known is open. -/
theorem Inv.known {fl : List FileD} {ss : List (List Int)} (h : Inv fl ss) {ids : List Int} {x : Int} (hi : ids ∈ ss) (hx : x ∈ ids) (h1 : x ≠ -1) : ∃ (i : Nat) (o : FileD), x = (i : Int) ∧ i < 20 ∧ fl[i]? = some o ∧ knownB o = true ∧ openAt fl x = some o := by
  obtain ⟨k1, k2, k3⟩ := h.each ids hi
  have h2 := k1.1 x hx
  have h3 := k3 x hx
  obtain ⟨i, rfl⟩ := Int.eq_ofNat_of_zero_le (show 0 ≤ x by omega)
  obtain ⟨o, ho⟩ : ∃ o, fl[i]? = some o := ⟨_, List.getElem?_eq_getElem (by rw [h.len]; omega)⟩
  have h4 := h.refs i o ho
  have h5 := tot_pos ss ids (i : Int) hi hx
  have hk : knownB o = true := by unfold knownB; exact decide_eq_true (by omega)
  exact ⟨i, o, rfl, by omega, ho, hk, openAt_yes ho hk⟩
/-- One more is known, and open. -/
theorem Inv.more {fl : List FileD} {ss : List (List Int)} (h : Inv fl ss) {k p i : Nat} {ids : List Int} {o o' : FileD} (hk : ss[k]? = some ids) (hp : ids[p]? = some (-1)) (ho : fl[i]? = some o) (hr : o'.refs = o.refs + 1) : Inv (fl.set i o') (ss.set k (ids.set p (i : Int))) := by
  have hmem := List.mem_of_getElem? hk
  have hlt := (List.getElem?_eq_some_iff.1 ho).1
  have h20 := h.len
  refine ⟨by rw [List.length_set]; exact h.len, fun j x hx => ?_, fun jds hj => ?_, by rw [List.length_set]; exact h.many⟩
  · have e1 := tot_set ss k ids (ids.set p (i : Int)) (j : Int) hk
    rw [count_put hp (j : Int) (by omega)] at e1
    by_cases e : i = j
    · subst e
      rw [List.getElem?_set_self hlt] at hx
      cases hx
      have e2 := h.refs i o ho
      rw [if_pos rfl] at e1
      omega
    · rw [List.getElem?_set_ne e] at hx
      have e2 := h.refs j x hx
      rw [if_neg (by omega)] at e1
      omega
  · rcases List.mem_or_eq_of_mem_set hj with hj | rfl
    · exact h.each jds hj
    · obtain ⟨k1, k2, k3⟩ := h.each ids hmem
      refine ⟨okS_set k1 _ (by omega), by rw [List.length_set]; exact k2, fun x hx => ?_⟩
      rcases List.mem_or_eq_of_mem_set hx with hx | rfl
      · exact k3 x hx
      · omega
/-- One less. -/
theorem Inv.less {fl : List FileD} {ss : List (List Int)} (h : Inv fl ss) {k p i : Nat} {ids : List Int} {o o' : FileD} (hk : ss[k]? = some ids) (hp : ids[p]? = some (i : Int)) (ho : fl[i]? = some o) (hr : o'.refs = o.refs - 1) : Inv (fl.set i o') (ss.set k (ids.set p (-1))) := by
  have hmem := List.mem_of_getElem? hk
  have hlt := (List.getElem?_eq_some_iff.1 ho).1
  refine ⟨by rw [List.length_set]; exact h.len, fun j x hx => ?_, fun jds hj => ?_, by rw [List.length_set]; exact h.many⟩
  · have e1 := tot_set ss k ids (ids.set p (-1)) (j : Int) hk
    have e3 := count_take hp (j : Int) (by omega)
    by_cases e : i = j
    · subst e
      rw [List.getElem?_set_self hlt] at hx
      cases hx
      have e2 := h.refs i o ho
      rw [if_pos rfl] at e3
      omega
    · rw [List.getElem?_set_ne e] at hx
      have e2 := h.refs j x hx
      rw [if_neg (by omega)] at e3
      omega
  · rcases List.mem_or_eq_of_mem_set hj with hj | rfl
    · exact h.each jds hj
    · obtain ⟨k1, k2, k3⟩ := h.each ids hmem
      refine ⟨okS_set k1 _ (by decide), by rw [List.length_set]; exact k2, fun x hx => ?_⟩
      rcases List.mem_or_eq_of_mem_set hx with hx | rfl
      · exact k3 x hx
      · decide
/-- A file that nobody knows is another one that nobody knows. -/
theorem Inv.same {fl : List FileD} {ss : List (List Int)} (h : Inv fl ss) {i : Nat} {o o' : FileD} (ho : fl[i]? = some o) (hr : o'.refs = o.refs) : Inv (fl.set i o') ss := by
  have hlt := (List.getElem?_eq_some_iff.1 ho).1
  refine ⟨by rw [List.length_set]; exact h.len, fun j x hx => ?_, h.each, h.many⟩
  by_cases e : i = j
  · subst e
    rw [List.getElem?_set_self hlt] at hx
    cases hx
    rw [hr]
    exact h.refs i o ho
  · rw [List.getElem?_set_ne e] at hx
    exact h.refs j x hx
/-- All open files that are known: what isn't none, in order. -/
theorem allL_filter (ids : List Int) : allL ids = ids.filter someB := by
  have key : ∀ k, k ≤ ids.length → (placesL someB ids k).map (fun j => ids[j]?.getD 0) = (ids.take k).filter someB := by
    intro k
    induction k with
    | zero => intro _; rfl
    | succ k ih =>
      intro hk
      obtain ⟨x, hx⟩ : ∃ x, ids[k]? = some x := ⟨_, List.getElem?_eq_getElem (by omega)⟩
      rw [List.take_add_one, hx, List.filter_append, ← ih (by omega)]
      cases hs : someB x with
      | true => rw [placesL_yes hx hs, List.map_append]; simp [hx, hs]
      | false => rw [placesL_no hx hs]; simp [hs]
  have := key ids.length (Nat.le_refl _)
  rw [List.take_length] at this
  exact this
theorem all_count (ids : List Int) (y : Int) (hy : 0 ≤ y) : (allL ids).count y = ids.count y := by
  rw [allL_filter, List.count_filter]
  unfold someB
  simp
  omega
theorem all_mem {ids : List Int} {x : Int} (h : x ∈ allL ids) : x ∈ ids ∧ x ≠ -1 := by
  rw [allL_filter, List.mem_filter] at h
  refine ⟨h.1, ?_⟩
  have := h.2
  unfold someB at this
  simpa using this
/-- How many of the least n numbers are there. -/
def dist (n : Nat) (acc : List Int) : Nat := ((List.range n).filter fun (i : Nat) => decide (0 < acc.count (i : Int))).length
theorem dist_snoc (n : Nat) (acc : List Int) (x : Nat) : dist n (acc ++ [(x : Int)]) = dist n acc + (if x < n ∧ acc.count (x : Int) = 0 then 1 else 0) := by
  induction n with
  | zero => simp [dist]
  | succ n ih =>
    unfold dist at ih ⊢
    rw [List.range_succ, List.filter_append, List.filter_append, List.length_append, List.length_append, ih]
    simp only [List.filter_cons, List.filter_nil, List.count_append]
    have one : ∀ (b : Bool) (m : Nat), (if b = true then [m] else ([] : List Nat)).length = b.toNat := by intro b m; cases b <;> rfl
    rw [one, one]
    by_cases e : x = n
    · subst e
      have h1 : ¬ (x < x ∧ acc.count (x : Int) = 0) := fun h => Nat.lt_irrefl _ h.1
      have h2 : List.count (x : Int) [(x : Int)] = 1 := by simp
      have h3 : decide (0 < acc.count (x : Int) + 1) = true := decide_eq_true (by omega)
      rw [h2, h3, if_neg h1]
      by_cases hz : acc.count (x : Int) = 0
      · have h4 : decide (0 < acc.count (x : Int)) = false := decide_eq_false (by omega)
        rw [h4, if_pos ⟨Nat.lt_succ_self x, hz⟩]
        rfl
      · have h4 : decide (0 < acc.count (x : Int)) = true := decide_eq_true (by omega)
        rw [h4, if_neg (fun h => hz h.2)]
        rfl
    · have h2 : List.count (n : Int) [(x : Int)] = 0 := by rw [List.count_eq_zero]; simp; omega
      rw [h2, Nat.add_zero]
      have h3 : (x < n + 1 ∧ acc.count (x : Int) = 0) ↔ (x < n ∧ acc.count (x : Int) = 0) := by constructor <;> (intro h; exact ⟨by omega, h.2⟩)
      by_cases hc : x < n ∧ acc.count (x : Int) = 0
      · rw [if_pos hc, if_pos (h3.2 hc)]; omega
      · rw [if_neg hc, if_neg (fun h => hc (h3.1 h))]
        omega
theorem flat_count (ss : List (List Int)) (y : Int) (hy : 0 ≤ y) : (ss.flatMap allL).count y = tot ss y := by
  induction ss with
  | nil => rfl
  | cons a ss ih => rw [List.flatMap_cons, List.count_append, tot_cons, ih, all_count a y hy]
theorem Inv.count {fl : List FileD} {ss : List (List Int)} (h : Inv fl ss) : countF fl = dist 20 (ss.flatMap allL) := by
  unfold countF placesL dist
  rw [h.len]
  congr 1
  apply List.filter_congr
  intro i hi
  have hi20 := List.mem_range.1 hi
  obtain ⟨o, ho⟩ : ∃ o, fl[i]? = some o := ⟨_, List.getElem?_eq_getElem (by rw [h.len]; exact hi20)⟩
  rw [ho, flat_count ss (i : Int) (by omega)]
  have := h.refs i o ho
  show decide (0 < o.refs) = _
  rw [this]
  simp
theorem turn20 (x : Int) (m : Nat) (hm : 0 < m) : ∃ i : Nat, Int.tmod (Int.tmod x m + m) m = (i : Int) ∧ i < m ∧ -(m : Int) < Int.tmod x m ∧ Int.tmod x m < m := by
  have h1 : -(m : Int) < Int.tmod x m := Int.lt_tmod_of_pos x (by omega)
  have h2 : Int.tmod x m < m := Int.tmod_lt_of_pos x (by omega)
  have h4 := Int.tmod_nonneg (m : Int) (show 0 ≤ Int.tmod x m + m by omega)
  have h5 := Int.tmod_lt_of_pos (Int.tmod x m + m) (show (0 : Int) < m by omega)
  exact ⟨(Int.tmod (Int.tmod x m + m) m).toNat, by omega, by omega, h1, h2⟩
/-- While a clone's are counted. -/
structure Mid (fl : List FileD) (ss : List (List Int)) (acc : List Int) : Prop where
  len : fl.length = 20
  refs : ∀ (i : Nat) (o : FileD), fl[i]? = some o → o.refs = ((tot ss (i : Int) + acc.count (i : Int) : Nat) : Int)
theorem Inv.mid {fl : List FileD} {ss : List (List Int)} (h : Inv fl ss) : Mid fl ss [] := ⟨h.len, fun i o ho => by rw [h.refs i o ho]; simp⟩
theorem Mid.few {fl fl0 : List FileD} {ss : List (List Int)} {acc : List Int} (h : Mid fl ss acc) (h0 : Inv fl0 ss) (ha : acc.length ≤ 16) : FewRefs 100 fl := by
  intro o ho
  obtain ⟨i, hi⟩ := List.getElem?_of_mem ho
  have h1 := h.refs i o hi
  have h2 := tot_le ss (i : Int) (fun ids hd => (h0.each ids hd).2.1)
  have h3 := h0.many.2
  have h4 : acc.count (i : Int) ≤ acc.length := List.count_le_length
  omega
theorem Mid.known {fl fl0 : List FileD} {ss : List (List Int)} {acc : List Int} (h : Mid fl ss acc) (h0 : Inv fl0 ss) {ids : List Int} {x : Int} (hi : ids ∈ ss) (hx : x ∈ ids) (h1 : x ≠ -1) : ∃ (i : Nat) (o : FileD), x = (i : Int) ∧ i < 20 ∧ fl[i]? = some o ∧ openAt fl x = some o := by
  obtain ⟨k1, k2, k3⟩ := h0.each ids hi
  have h2 := k1.1 x hx
  have h3 := k3 x hx
  obtain ⟨i, rfl⟩ := Int.eq_ofNat_of_zero_le (show 0 ≤ x by omega)
  obtain ⟨o, ho⟩ : ∃ o, fl[i]? = some o := ⟨_, List.getElem?_eq_getElem (by rw [h.len]; omega)⟩
  have h4 := h.refs i o ho
  have h5 := tot_pos ss ids (i : Int) hi hx
  have hk : knownB o = true := by unfold knownB; exact decide_eq_true (by omega)
  exact ⟨i, o, rfl, by omega, ho, openAt_yes ho hk⟩
theorem Mid.ref {fl : List FileD} {ss : List (List Int)} {acc : List Int} (h : Mid fl ss acc) {i : Nat} {o o' : FileD} (ho : fl[i]? = some o) (hr : o'.refs = o.refs + 1) : Mid (fl.set i o') ss (acc ++ [(i : Int)]) := by
  have hlt := (List.getElem?_eq_some_iff.1 ho).1
  refine ⟨by rw [List.length_set]; exact h.len, fun j x hx => ?_⟩
  rw [List.count_append]
  by_cases e : i = j
  · subst e
    rw [List.getElem?_set_self hlt] at hx
    cases hx
    have := h.refs i o ho
    have e1 : List.count (i : Int) [(i : Int)] = 1 := by simp
    rw [e1]
    omega
  · rw [List.getElem?_set_ne e] at hx
    have e1 : List.count (j : Int) [(i : Int)] = 0 := by rw [List.count_eq_zero]; simp; omega
    rw [e1]
    exact h.refs j x hx
theorem Mid.done {fl fl0 : List FileD} {ss : List (List Int)} {ids : List Int} (h : Mid fl ss (allL ids)) (h0 : Inv fl0 ss) (hi : ids ∈ ss) (hn : ss.length < 6) : Inv fl (ss ++ [ids]) := by
  refine ⟨h.len, fun i o ho => ?_, fun jds hj => ?_, by rw [List.length_append]; have := h0.many; simp; omega⟩
  · rw [tot_snoc, h.refs i o ho, all_count ids (i : Int) (by omega)]
  · rcases List.mem_append.1 hj with hj | hj
    · exact h0.each jds hj
    · obtain rfl : jds = ids := by simpa using hj
      exact h0.each _ hi
/-- Opened: there is no room, or one that nobody knew is known once. -/
theorem open_or {fl : List FileD} {ss : List (List Int)} (h : Inv fl ss) : openF fl 1 1 1 = (fl, 0, 14) ∨ ∃ (i : Nat) (o : FileD), i < 20 ∧ fl[i]? = some o ∧ o.refs = 0 ∧ openF fl 1 1 1 = (fl.set i ⟨1, 1, 0, 1, 1⟩, (i : Int), 0) := by
  have hb : ¬ badO 1 1 1 := by unfold badO; omega
  unfold openF
  rw [if_neg hb]
  rcases firstF_or (fun o => !knownB o) fl with ⟨e, _⟩ | ⟨i, s, e, hs, hk, _⟩
  · left
    rw [e, if_pos (by decide)]
  · right
    have hi := (List.getElem?_eq_some_iff.1 hs).1
    have h20 := h.len
    refine ⟨i, s, by omega, hs, ?_, by rw [e, if_neg (by omega), Int.toNat_natCast]⟩
    have h1 := h.refs i s hs
    have h2 : knownB s = false := by simpa using hk
    unfold knownB at h2
    have h3 := of_decide_eq_false h2
    omega
theorem putS_or (ids : List Int) (i : Nat) : putS ids (i : Int) = (ids, 0, 13) ∨ ∃ p : Nat, ids[p]? = some (-1) ∧ putS ids (i : Int) = (ids.set p (i : Int), (p : Int), 0) := by
  unfold putS
  rw [if_neg (by omega)]
  rcases firstF_or noneB ids with ⟨e, _⟩ | ⟨p, s, e, hs, hk, _⟩
  · left
    rw [e, if_pos (by decide)]
  · right
    unfold noneB at hk
    obtain rfl : s = -1 := by simpa using hk
    exact ⟨p, hs, by rw [e, if_neg (by omega), Int.toNat_natCast]⟩
theorem takeS_or (ids : List Int) (n : Int) : takeS ids n = (ids, 0, 2) ∨ ∃ (p : Nat) (x : Int), ids[p]? = some x ∧ x ≠ -1 ∧ takeS ids n = (ids.set p (-1), x, 0) := by
  rcases getS_or ids n with hz | ⟨p, x, rfl, hx, h1, hg⟩
  · left
    unfold takeS
    rw [hz]
    rfl
  · right
    refine ⟨p, x, hx, h1, ?_⟩
    unfold takeS
    rw [hg, if_pos rfl, Int.toNat_natCast]
theorem refF_yes {fl : List FileD} {i : Nat} {o : FileD} (h : openAt fl (i : Int) = some o) : refF fl (i : Int) = (fl.set i { o with refs := o.refs + 1 }, 0) := by
  unfold refF
  rw [h]
  dsimp only
  rw [Int.toNat_natCast]
theorem closeF_yes {fl : List FileD} {i : Nat} {o : FileD} (h : openAt fl (i : Int) = some o) : ∃ o' b, o'.refs = o.refs - 1 ∧ closeF fl (i : Int) = (fl.set i o', o, b, 0) ∧ (o.refs = 1 → b = true) := by
  unfold closeF
  rw [h]
  dsimp only
  rw [Int.toNat_natCast]
  by_cases h1 : o.refs = 1
  · rw [if_pos h1]
    exact ⟨zeroF, true, by rw [h1]; rfl, rfl, fun _ => rfl⟩
  · rw [if_neg h1]
    exact ⟨{ o with refs := o.refs - 1 }, false, rfl, rfl, fun h => absurd h h1⟩
end Go.Proofs.Ytbpklbicbeckdaa
