/- The map of those that are known: how often. -/
import Derived.Test.YtbpklbicbeckdaaGnpbafgbm
import Derived.Test.YtbpklbicbeckdaaGiibbpjpo
namespace Go.Proofs.Ytbpklbicbeckdaa
open Go.RowKit Go.Sort
set_option linter.unusedVariables false
set_option linter.unusedSimpArgs false
set_option maxRecDepth 100000

def pA (acc : List Int) (j : Int) : Bool := decide (0 < acc.count j)
def FA (acc : List Int) (j : Int) : Int := (acc.count j : Int)
theorem wh_more {B : Nat} {w : World} {b n : Nat} {acc : List Int} {i : Nat} (hi : i < 20)
    (h : IsWh B w b (n + 1) (if pA acc (i : Int) then dist 20 acc else dist 20 acc + 1) (fun j => decide (j = (i : Int)) || pA acc j) (fun j => if j = (i : Int) then FA acc (i : Int) + 1 else FA acc j)) : IsWh B w b (n + 1) (dist 20 (acc ++ [(i : Int)])) (pA (acc ++ [(i : Int)])) (FA (acc ++ [(i : Int)])) := by
  have one : ∀ j : Int, List.count j [(i : Int)] = if j = (i : Int) then 1 else 0 := by
    intro j
    by_cases e : j = (i : Int)
    · subst e; simp
    · rw [if_neg e, List.count_eq_zero]; simp; exact e
  refine h.same (Nat.le_refl _) ?_ (fun j _ => ?_) (fun j _ => ?_)
  · rw [dist_snoc]
    by_cases hz : acc.count (i : Int) = 0
    · have e1 : pA acc (i : Int) = false := by unfold pA; exact decide_eq_false (by omega)
      rw [if_pos (show i < 20 ∧ acc.count (i : Int) = 0 from ⟨hi, hz⟩), e1]
      rfl
    · have e1 : pA acc (i : Int) = true := by unfold pA; exact decide_eq_true (by omega)
      rw [if_neg (show ¬ (i < 20 ∧ acc.count (i : Int) = 0) from fun h => hz h.2), e1]
      rfl
  · unfold pA
    rw [List.count_append, one]
    by_cases e : j = (i : Int)
    · rw [if_pos e, decide_eq_true e]
      simp
    · rw [if_neg e, decide_eq_false e]
      simp
  · unfold FA
    rw [List.count_append, one]
    by_cases e : j = (i : Int)
    · subst e; rw [if_pos rfl, if_pos rfl]; simp
    · rw [if_neg e, if_neg e]; simp
/-- A number that is counted belongs to some set. -/
theorem flat_mem : ∀ {ss : List (List Int)} {x : Int}, 0 < (ss.flatMap allL).count x → ∃ ids ∈ ss, x ∈ ids ∧ x ≠ -1 := by
  intro ss x h
  have hm : x ∈ ss.flatMap allL := List.count_pos_iff.1 h
  obtain ⟨ids, hi, hx⟩ := List.mem_flatMap.1 hm
  exact ⟨ids, hi, all_mem hx⟩
theorem allFlat_length : ∀ (ss : List (List Int)), (∀ ids ∈ ss, ids.length = 8) → (ss.flatMap allL).length ≤ ss.length * 8
  | [], _ => Nat.le_refl _
  | a :: ss, h => by
    have ih := allFlat_length ss (fun ids hi => h ids (List.mem_cons_of_mem _ hi))
    have h1 : (allL a).length ≤ 8 := by
      rw [allL_length]
      refine Nat.le_trans (placesL_length _ _ _) ?_
      rw [h a (List.mem_cons_self ..)]
      exact Nat.le_refl _
    rw [List.flatMap_cons, List.length_append, List.length_cons]
    omega
def accOf (os : List ShD) (q : Nat) : List Int := ((idsOf os).take q).flatMap allL
abbrev WhA (b : Nat) (w : World) (acc : List Int) : Prop := IsWh b w b acc.length (dist 20 acc) (pA acc) (FA acc)
theorem accOf_succ {os : List ShD} {q : Nat} {o : ShD} (h : os[q]? = some o) : accOf os (q + 1) = accOf os q ++ allL o.ids := by
  unfold accOf
  rw [List.take_add_one, idsOf_get h, List.flatMap_append]
  simp
theorem accOf_all {os : List ShD} {N : Nat} (h : os.length = N) : accOf os N = (idsOf os).flatMap allL := by
  unfold accOf
  rw [List.take_of_length_le (by rw [idsOf_length, h]; exact Nat.le_refl _)]
theorem accOf_length {fl : List FileD} {os : List ShD} (h : Inv fl (idsOf os)) (q : Nat) : (accOf os q).length ≤ 48 := by
  have h1 := allFlat_length ((idsOf os).take q) (fun ids hi => (h.each ids (List.mem_of_mem_take hi)).2.1)
  have h2 := h.many.2
  rw [List.length_take] at h1
  unfold accOf
  omega
theorem wh_start (w : World) : WhA w.heap.size (w.alloc (.map #[] 0)) [] :=
  (wh_new w (Nat.le_refl _)).same (Nat.le_refl _) (by decide) (fun _ _ => rfl) (fun _ _ => rfl)
theorem wh_moreA {b : Nat} {w : World} {acc : List Int} {i : Nat} {f : Int} (hi : i < 20) (hf : FA acc (i : Int) = f)
    (h : IsWh b w b (acc.length + 1) (if pA acc (i : Int) then dist 20 acc else dist 20 acc + 1) (fun j => decide (j = (i : Int)) || pA acc j) (fun j => if j = (i : Int) then f + 1 else FA acc j)) : WhA b w (acc ++ [(i : Int)]) := by
  rw [← hf] at h
  have := wh_more hi h
  unfold WhA
  rw [List.length_append]
  exact this
theorem FA_bound (acc : List Int) (x : Int) : 0 ≤ FA acc x ∧ FA acc x ≤ (acc.length : Int) := by
  have : acc.count x ≤ acc.length := List.count_le_length
  unfold FA
  omega
theorem OwnsV.keptM {B B' : Nat} {w w' : World} {e : TypeId} {v : Value} {l : List Value} {b n sz : Nat} {p : Int → Bool} {F : Int → Int} (h : OwnsV B w e v l) (hm : IsWh B' w b n sz p F) (hg : w.grownBy w' (some b)) : OwnsV B w' e v l := by
  refine h.kept hg ?_
  obtain ⟨_, ⟨rfl, _⟩ | ⟨g9, c9, cur9, rfl, _, hg9, _⟩⟩ := h
  · exact .inl rfl
  · exact .inr (fun e9 => hm.ne hg9 (Option.some.inj e9).symm)
/-- What is counted is open, and known just as often. -/
theorem Inv.counted {fl : List FileD} {os : List ShD} (h : Inv fl (idsOf os)) {x : Int} (hp : pA ((idsOf os).flatMap allL) x = true) : ∃ (i : Nat) (o : FileD), x = (i : Int) ∧ i < 20 ∧ openAt fl x = some o ∧ o.refs = FA ((idsOf os).flatMap allL) x := by
  unfold pA at hp
  obtain ⟨ids, hi, hx, hne⟩ := flat_mem (of_decide_eq_true hp)
  obtain ⟨i, o, rfl, hi20, ho, _, hopen⟩ := h.known hi hx hne
  refine ⟨i, o, rfl, hi20, hopen, ?_⟩
  unfold FA
  rw [h.refs i o ho, flat_count _ _ (by omega)]
end Go.Proofs.Ytbpklbicbeckdaa
