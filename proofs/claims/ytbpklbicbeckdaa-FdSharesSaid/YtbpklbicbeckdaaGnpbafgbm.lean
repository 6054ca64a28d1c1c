/- Open files and the sets that know them: none disturbs another. -/
import Derived.Test.YtbpklbicbeckdaaGclgedefe
namespace Go.Proofs.Ytbpklbicbeckdaa
open Go.RowKit Go.Sort
set_option linter.unusedVariables false
set_option linter.unusedSimpArgs false
set_option maxRecDepth 100000

structure ShD where
  g : Nat
  gs : Nat
  cap : Nat
  ids : List Int
def sptrs (l : List ShD) : List Value := l.map fun o => .pointer (some ⟨o.g, 0, none⟩)
def idsOf (l : List ShD) : List (List Int) := l.map (·.ids)
theorem sptrs_length (l : List ShD) : (sptrs l).length = l.length := by unfold sptrs; rw [List.length_map]
theorem idsOf_length (l : List ShD) : (idsOf l).length = l.length := by unfold idsOf; rw [List.length_map]
theorem sptrs_get {l : List ShD} {k : Nat} {o : ShD} (h : l[k]? = some o) : (sptrs l)[k]? = some (.pointer (some ⟨o.g, 0, none⟩)) := by unfold sptrs; rw [List.getElem?_map, h]; rfl
theorem idsOf_get {l : List ShD} {k : Nat} {o : ShD} (h : l[k]? = some o) : (idsOf l)[k]? = some o.ids := by unfold idsOf; rw [List.getElem?_map, h]; rfl
theorem idsOf_set (l : List ShD) (k : Nat) (g gs cap : Nat) (ids : List Int) : idsOf (l.set k ⟨g, gs, cap, ids⟩) = (idsOf l).set k ids := by unfold idsOf; rw [List.map_set]
theorem sptrs_set {l : List ShD} {k : Nat} {o : ShD} (h : l[k]? = some o) (gs cap : Nat) (ids : List Int) : sptrs (l.set k ⟨o.g, gs, cap, ids⟩) = sptrs l := by
  unfold sptrs
  rw [List.map_set]
  apply List.ext_getElem?
  intro j
  by_cases e : k = j
  · subst e
    have hlt := (List.getElem?_eq_some_iff.1 h).1
    rw [List.getElem?_set_self (by rw [List.length_map]; exact hlt), List.getElem?_map, h]
    rfl
  · rw [List.getElem?_set_ne e]
theorem IsFiles.keptV {B B' : Nat} {w w' : World} {g gs : Nat} {fl : List FileD} {e : TypeId} {v : Value} {l : List Value} (h : IsFiles B w g gs fl) (ho : OwnsV B' w e v l) (hg : w.grownBy w' v.ownBlock) (h1 : e ≠ 74) (h2 : e ≠ 128) : IsFiles B w' g gs fl := by
  obtain ⟨cs, hc⟩ := own_cells h.2.1
  refine ⟨(hg.block g (files_lt h).1 (fun e9 => ownV_ne ho h.1 h2 e9.symm)).trans h.1, h.2.1.kept hg (.inr (fun e9 => ownV_ne ho hc h1 ?_)), h.2.2⟩
  exact e9.symm
/-- The open files, the sets, and the slice of the sets. -/
structure Sh (w0 : World) (gf gfs : Nat) (fl : List FileD) (v : Value) (M : List Value) (l : List ShD) (W : World) : Prop where
  files : IsFiles w0.heap.size W gf gfs fl
  sets : ∀ o ∈ l, IsSet w0.heap.size W o.g o.gs o.cap o.ids
  apart : ∀ (i j : Nat) (o p : ShD), l[i]? = some o → l[j]? = some p → i ≠ j → o.gs ≠ p.gs
  own : OwnsV w0.heap.size W 84 v M
  below : Below w0.heap.size w0 W
theorem Sh.at {w0 : World} {gf gfs : Nat} {fl : List FileD} {v : Value} {M : List Value} {l : List ShD} {W : World} (h : Sh w0 gf gfs fl v M l W) {k : Nat} {o : ShD} (hk : l[k]? = some o) : IsSet w0.heap.size W o.g o.gs o.cap o.ids := h.sets o (List.mem_of_getElem? hk)
theorem Sh.more {w0 : World} {gf gfs : Nat} {fl : List FileD} {v : Value} {M : List Value} {l : List ShD} {W W' : World} (h : Sh w0 gf gfs fl v M l W) (b : Below W.heap.size W W') : Sh w0 gf gfs fl v M l W' :=
  ⟨h.files.below b, fun o ho => (h.sets o ho).below b, h.apart, h.own.below b, below_next h.below b⟩
theorem Sh.filed {w0 : World} {gf gfs : Nat} {fl fl' : List FileD} {v : Value} {M : List Value} {l : List ShD} {W W' : World} (h : Sh w0 gf gfs fl v M l W) (hf : IsFiles w0.heap.size W' gf gfs fl') (hg : W.grownBy W' (some gfs)) : Sh w0 gf gfs fl' v M l W' := by
  obtain ⟨cs, hc⟩ := own_cells h.files.2.1
  exact ⟨hf, fun o ho => (h.sets o ho).keptF h.files hg, h.apart, h.own.kept hg (.inr (ownV_ne h.own hc (by decide))), h.below.grown hg h.below.size (fun j hj => by obtain rfl := Option.some.inj hj; exact (files_lt h.files).2.2)⟩
theorem Sh.put {w0 : World} {gf gfs : Nat} {fl : List FileD} {v : Value} {M : List Value} {l : List ShD} {W W' : World} (h : Sh w0 gf gfs fl v M l W) {k : Nat} {o : ShD} (hk : l[k]? = some o) {ids' : List Int} (hs : IsSet w0.heap.size W' o.g o.gs o.cap ids') (hg : W.grownBy W' (some o.gs)) : Sh w0 gf gfs fl v M (l.set k ⟨o.g, o.gs, o.cap, ids'⟩) W' := by
  have ho := h.at hk
  have hlt := (List.getElem?_eq_some_iff.1 hk).1
  obtain ⟨ds, hd⟩ := own_cellsV ho.2.1
  have back : ∀ (j : Nat) (p : ShD), (l.set k ⟨o.g, o.gs, o.cap, ids'⟩)[j]? = some p → (k = j ∧ p = ⟨o.g, o.gs, o.cap, ids'⟩) ∨ (k ≠ j ∧ l[j]? = some p) := by
    intro j p hp
    by_cases e : k = j
    · subst e
      rw [List.getElem?_set_self hlt] at hp
      exact .inl ⟨rfl, (Option.some.inj hp).symm⟩
    · rw [List.getElem?_set_ne e] at hp
      exact .inr ⟨e, hp⟩
  refine ⟨h.files.keptS ho hg, fun p hp => ?_, fun i j p q hi hj hne => ?_, h.own.kept hg (.inr (ownV_ne h.own hd (by decide))), h.below.grown hg h.below.size (fun j hj => by obtain rfl := Option.some.inj hj; exact (set_lt ho).2.2)⟩
  · obtain ⟨j, hj⟩ := List.getElem?_of_mem hp
    rcases back j p hj with ⟨_, rfl⟩ | ⟨e, hj⟩
    · exact hs
    · exact (h.at hj).keptB ho hg (h.apart j k p o hj hk (Ne.symm e))
  · rcases back i p hi with ⟨e1, rfl⟩ | ⟨e1, hi⟩
    · rcases back j q hj with ⟨e2, rfl⟩ | ⟨e2, hj⟩
      · exact absurd (e1.symm.trans e2) hne
      · exact h.apart k j o q hk hj e2
    · rcases back j q hj with ⟨e2, rfl⟩ | ⟨e2, hj⟩
      · exact h.apart i k p o hi hk (Ne.symm e1)
      · exact h.apart i j p q hi hj hne
theorem Sh.grow {w0 : World} {gf gfs g gs cap : Nat} {fl : List FileD} {v : Value} {M : List Value} {l : List ShD} {W W' : World} {ids : List Int} (h : Sh w0 gf gfs fl v M l W) (hs : IsSet W.heap.size W' g gs cap ids) (b : Below W.heap.size W W') : Sh w0 gf gfs fl v M (l ++ [⟨g, gs, cap, ids⟩]) W' := by
  have hgs := (set_lt hs).2.2
  have back : ∀ (j : Nat) (p : ShD), (l ++ [⟨g, gs, cap, ids⟩])[j]? = some p → (j = l.length ∧ p = ⟨g, gs, cap, ids⟩) ∨ (l[j]? = some p ∧ p.gs < W.heap.size) := by
    intro j p hp
    by_cases e : j < l.length
    · rw [List.getElem?_append_left e] at hp
      exact .inr ⟨hp, (set_lt (h.at hp)).2.1⟩
    · rw [List.getElem?_append_right (by omega)] at hp
      obtain ⟨k, hk⟩ : ∃ k, j - l.length = k := ⟨_, rfl⟩
      rw [hk] at hp
      rcases k with _ | k
      · exact .inl ⟨by omega, by simpa using hp.symm⟩
      · simp at hp
  refine ⟨h.files.below b, fun p hp => ?_, fun i j p q hi hj hne => ?_, h.own.below b, below_next h.below b⟩
  · rcases List.mem_append.1 hp with hp | hp
    · exact (h.sets p hp).below b
    · obtain rfl : p = ⟨g, gs, cap, ids⟩ := by simpa using hp
      exact hs.less h.below.size
  · rcases back i p hi with ⟨e1, rfl⟩ | ⟨hi, h1⟩
    · rcases back j q hj with ⟨e2, rfl⟩ | ⟨hj, h2⟩
      · exact absurd (e1.trans e2.symm) hne
      · show gs ≠ q.gs; omega
    · rcases back j q hj with ⟨e2, rfl⟩ | ⟨hj, h2⟩
      · show p.gs ≠ gs; omega
      · exact h.apart i j p q hi hj hne
theorem Sh.push {w0 : World} {gf gfs : Nat} {fl : List FileD} {v v' : Value} {M M' : List Value} {l : List ShD} {W W' : World} (h : Sh w0 gf gfs fl v M l W) (ho : OwnsV w0.heap.size W' 84 v' M') (hg : W.grownBy W' v.ownBlock) : Sh w0 gf gfs fl v' M' l W' :=
  ⟨h.files.keptV h.own hg (by decide) (by decide), fun o hd => (h.sets o hd).keptV h.own hg (by decide) (by decide), h.apart, ho, h.below.grown hg h.below.size (fun j hj => (h.own.lt j hj).1)⟩
theorem Sh.putP {w0 : World} {gf gfs : Nat} {fl : List FileD} {v : Value} {l : List ShD} {W W' : World} (h : Sh w0 gf gfs fl v (sptrs l) l W) {k : Nat} {o : ShD} (hk : l[k]? = some o) {ids' : List Int} (hs : IsSet w0.heap.size W' o.g o.gs o.cap ids') (hg : W.grownBy W' (some o.gs)) : Sh w0 gf gfs fl v (sptrs (l.set k ⟨o.g, o.gs, o.cap, ids'⟩)) (l.set k ⟨o.g, o.gs, o.cap, ids'⟩) W' := by
  rw [sptrs_set hk]
  exact h.put hk hs hg
theorem Inv.reset {fl : List FileD} {l : List ShD} (h : Inv fl (idsOf l)) {k : Nat} {o : ShD} (hk : l[k]? = some o) : Inv fl (idsOf (l.set k ⟨o.g, o.gs, o.cap, o.ids⟩)) := by
  have e : l.set k ⟨o.g, o.gs, o.cap, o.ids⟩ = l := by
    apply List.ext_getElem?
    intro j
    by_cases e : k = j
    · subst e
      rw [List.getElem?_set_self (List.getElem?_eq_some_iff.1 hk).1, hk]
    · rw [List.getElem?_set_ne e]
  rw [e]
  exact h
theorem Inv.set {fl : List FileD} {l : List ShD} {k g gs cap : Nat} {ids : List Int} (h : Inv fl ((idsOf l).set k ids)) : Inv fl (idsOf (l.set k ⟨g, gs, cap, ids⟩)) := by
  rw [idsOf_set]
  exact h
theorem Inv.snoc {fl : List FileD} {l : List ShD} {g gs cap : Nat} {ids : List Int} (h : Inv fl (idsOf l ++ [ids])) : Inv fl (idsOf (l ++ [⟨g, gs, cap, ids⟩])) := by
  have e : idsOf (l ++ [⟨g, gs, cap, ids⟩]) = idsOf l ++ [ids] := by unfold idsOf; rw [List.map_append]; rfl
  rw [e]
  exact h
theorem sptrs_snoc (l : List ShD) (g gs cap : Nat) (ids : List Int) : sptrs l ++ [.pointer (some ⟨g, 0, none⟩)] = sptrs (l ++ [⟨g, gs, cap, ids⟩]) := by unfold sptrs; rw [List.map_append]; rfl
theorem inv_start (g gs cap : Nat) : Inv (List.replicate 20 zeroF) (idsOf [⟨g, gs, cap, List.replicate 8 (-1)⟩]) := by
  refine ⟨List.length_replicate, fun i o ho => ?_, fun ids hi => ?_, by rw [idsOf_length]; exact ⟨Nat.le_refl 1, (by decide : 1 ≤ 6)⟩⟩
  · obtain rfl := List.eq_of_mem_replicate (List.mem_of_getElem? ho)
    show (0 : Int) = _
    have : tot (idsOf [⟨g, gs, cap, List.replicate 8 (-1)⟩]) (i : Int) = 0 := by
      show tot [List.replicate 8 (-1)] (i : Int) = 0
      rw [tot_cons, tot_nil, List.count_replicate]
      have : ((-1 : Int) == (i : Int)) = false := by simp
      rw [this]
      rfl
    rw [this]
    rfl
  · obtain rfl : ids = List.replicate 8 (-1) := by simpa [idsOf] using hi
    exact ⟨⟨fun x hx => by rw [List.eq_of_mem_replicate hx]; decide, by decide, by decide⟩, by decide, fun x hx => by rw [List.eq_of_mem_replicate hx]; decide⟩
theorem OwnsV.keptFl {B B' : Nat} {w w' : World} {v : Value} {l : List Value} {gf gfs : Nat} {fl : List FileD} {e : TypeId} (h : OwnsV B w e v l) (hf : IsFiles B' w gf gfs fl) (hg : w.grownBy w' (some gfs)) (hne : e ≠ 74) : OwnsV B w' e v l := by
  obtain ⟨cs, hc⟩ := own_cells hf.2.1
  exact h.kept hg (.inr (ownV_ne h hc hne))
end Go.Proofs.Ytbpklbicbeckdaa
