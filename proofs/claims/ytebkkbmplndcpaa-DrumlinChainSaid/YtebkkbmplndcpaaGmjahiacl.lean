/- Orphans: plain facts of one who ends. -/
import Derived.Test.YtebkkbmplndcpaaGnpglpmlj
namespace Go.Proofs.Ytebkkbmplndcpaa
open Go.RowKit Go.Sort
set_option linter.unusedVariables false
set_option linter.unusedSimpArgs false
set_option maxRecDepth 100000

theorem nodup_mem {l : List ProcD} (hnd : (pidsL l).Nodup) {s t : ProcD} (hs : s ∈ l) (ht : t ∈ l) (h : s.pid = t.pid) : s = t := by
  obtain ⟨i, hi⟩ := List.getElem?_of_mem hs
  obtain ⟨j, hj⟩ := List.getElem?_of_mem ht
  obtain rfl := nodup_at hnd hi hj h
  rw [hi] at hj
  exact Option.some.inj hj
theorem orphP_parent (n : Int) (y : ProcD) : (orphP n y).parent = if y.parent = n then 1 else y.parent := by unfold orphP; split <;> rfl
/-- Its children are the first one's. -/
theorem end_kids {T : TabD} (h : TrInv T) {n c d : Int} (hn : n ≠ 1) {x : ProcD} (hx : x ∈ endL n c T.list) (hp : x.pid = d) (hd : d ∈ thoseL (parentB n) T.list) : x.parent = 1 := by
  unfold thoseL at hd
  obtain ⟨z, hz, rfl⟩ := List.mem_map.1 hd
  obtain ⟨hzl, hzn⟩ := List.mem_filter.1 hz
  have hzp : z.parent = n := of_decide_eq_true hzn
  obtain ⟨_, y, hy, ⟨e1, rfl⟩ | ⟨e1, rfl⟩⟩ := mem_endL hx
  · rw [(orph_pid _ _).1] at hp
    have hpn : n = z.pid := hp
    obtain ⟨_, h2, _⟩ := h.par z hzl (by rw [← hpn]; exact hn)
    omega
  · rw [(orph_pid _ _).1] at hp
    obtain rfl := nodup_mem h.nodup hy hzl hp
    rw [orphP_parent, if_pos hzp]
/-- One whose parent is the first is gone. -/
theorem end_gone {T : TabD} (h : TrInv T) {n c : Int} (hn : n ≠ 1) {s : ProcD} (hs : s ∈ T.list) (hp : s.pid = n) (h1 : s.parent = 1) (m la no : Int) : findI (endL n c T.list) n = -1 := by
  rcases found_or ⟨m, la, no, endL n c T.list⟩ n with ⟨h2, _⟩ | ⟨i, x, hf, hx, _⟩
  · exact h2
  · exfalso
    obtain ⟨hz, y, hy, ⟨e1, rfl⟩ | ⟨e1, rfl⟩⟩ := mem_endL (List.mem_of_getElem? hf.2)
    · obtain rfl := nodup_mem h.nodup hy hs (e1.trans hp.symm)
      have hpar : (orphP n (endP n c y)).parent = 1 := by rw [orphP_parent]; show (if y.parent = n then 1 else y.parent) = 1; (split <;> first | rfl | exact h1)
      rw [zomB_is.2 ⟨(orph_pid _ _).2.1, hpar⟩] at hz
      cases hz
    · rw [(orph_pid _ _).1] at hx
      exact e1 hx
/-- Another one is a Zombie. -/
theorem end_there {T : TabD} (h : TrInv T) {n c : Int} (hn : n ≠ 1) (hex : ∀ s ∈ T.list, s.pid = n → s.state ≠ 3) {s : ProcD} (hs : s ∈ T.list) (hp : s.pid = n) (h1 : s.parent ≠ 1) (m la no : Int) : ∃ i, Found ⟨m, la, no, endL n c T.list⟩ n i (endP n c s) := by
  obtain ⟨_, h2, _⟩ := h.par s hs (by rw [hp]; exact hn)
  have ho : orphP n (endP n c s) = endP n c s := by unfold orphP; rw [if_neg (show ¬ (endP n c s).parent = n from by show ¬ s.parent = n; omega)]
  have hm : endP n c s ∈ endL n c T.list := by
    unfold endL hitL
    refine List.mem_filter.2 ⟨List.mem_map.2 ⟨endP n c s, List.mem_map.2 ⟨s, hs, by rw [if_pos hp]⟩, ho⟩, ?_⟩
    have : zomB (endP n c s) = false := by unfold zomB; rw [show decide ((endP n c s).parent = 1) = false from decide_eq_false h1, Bool.and_false]
    rw [this]; rfl
  obtain ⟨i, hi⟩ := List.getElem?_of_mem hm
  exact ⟨i, findI_nodup (tr_end h n c hn hex).nodup hi, hi⟩
theorem end_childless (n c : Int) (l : List ProcD) (hn : n ≠ 1) : thoseL (parentB n) (endL n c l) = [] := by
  unfold thoseL
  have : (endL n c l).filter (parentB n) = [] := by
    rw [List.filter_eq_nil_iff]
    intro x hx hp
    have hp2 : x.parent = n := of_decide_eq_true hp
    obtain ⟨_, y, hy, ⟨_, rfl⟩ | ⟨_, rfl⟩⟩ := mem_endL hx
    · rw [orphP_parent] at hp2
      split at hp2
      · exact hn hp2.symm
      · contradiction
    · rw [orphP_parent] at hp2
      split at hp2
      · exact hn hp2.symm
      · contradiction
  rw [this]; rfl
theorem turn22 (x : Int) (m : Nat) (hm : 0 < m) : ∃ i : Nat, Int.tmod (Int.tmod x m + m) m = (i : Int) ∧ i < m ∧ -(m : Int) < Int.tmod x m ∧ Int.tmod x m < m := by
  have h1 : -(m : Int) < Int.tmod x m := Int.lt_tmod_of_pos x (by omega)
  have h2 : Int.tmod x m < m := Int.tmod_lt_of_pos x (by omega)
  have h4 := Int.tmod_nonneg (m : Int) (show 0 ≤ Int.tmod x m + m by omega)
  have h5 := Int.tmod_lt_of_pos (Int.tmod x m + m) (show (0 : Int) < m by omega)
  exact ⟨(Int.tmod (Int.tmod x m + m) m).toNat, by omega, by omega, h1, h2⟩
theorem own_cellsQ {B : Nat} {w : World} {e : TypeId} {k g n c : Nat} {l : List (List Value)} (h : OwnsR' B w e k (.slice (some ⟨g, 0, none⟩) n c) l) : ∃ cs, w.heap[g]? = some (.cells cs e (0, 0)) := by
  obtain ⟨_, _, ⟨hv, _⟩ | ⟨g', cap, cur, hv, _, hg, _⟩⟩ := h
  · cases hv
  · cases hv; exact ⟨_, hg⟩
theorem OwnsV.keptTK {B : Nat} {w w' : World} {e : TypeId} {g gs cap B' : Nat} {T : TabD} {v : Value} {l : List Value} (h : OwnsV B w e v l) (ht : IsTable B' w g gs cap T) (tk : TKeeps g gs w w') (h1 : e ≠ 77) (h2 : e ≠ 40) : OwnsV B w' e v l := by
  obtain ⟨hl, ⟨hv, hn⟩ | ⟨g', cp, cur, hv, hB, hg, hc, hm, hs, ht9⟩⟩ := h
  · exact ⟨hl, .inl ⟨hv, hn⟩⟩
  · subst hv
    have n1 : g' ≠ g := fun e => by subst e; rw [ht.1] at hg; simp at hg; exact h1 hg.2.symm
    have n2 : g' ≠ gs := fun e => by
      obtain ⟨cs9, hg9⟩ := own_cellsQ ht.2.1
      subst e
      rw [hg9] at hg
      simp at hg
      exact h2 hg.2.symm
    exact ⟨hl, .inr ⟨g', cp, cur, rfl, hB, (tk.block g' (Array.getElem?_eq_some_iff.1 hg).1 n1 n2).trans hg, hc, hm, hs, ht9⟩⟩
theorem found_same {T : TabD} {n : Int} {i j : Nat} {s t : ProcD} (h : Found T n i s) (k : Found T n j t) : s = t := by
  have e : (i : Int) = (j : Int) := h.1.symm.trans k.1
  obtain rfl : i = j := by omega
  exact Option.some.inj (h.2.symm.trans k.2)
theorem exitF_cases {T : TabD} {n : Int} {k : Nat} {s : ProcD} (hf : Found T n k s) (c : Int) : (s.state = 3 ∧ exitF T n c = (T, 18)) ∨ (s.state ≠ 3 ∧ n = 1 ∧ exitF T n c = (T, 1)) ∨ (s.state ≠ 3 ∧ n ≠ 1 ∧ exitF T n c = ({ T with list := endL n (bits .and .i64 c 255) T.list }, 0)) := by
  unfold exitF
  rcases gone_cases T n with ⟨e, hg⟩ | ⟨e, i, t, ht, hts, _⟩
  · rw [if_pos e]
    rcases hg with h1 | ⟨i, t, ht, hts⟩
    · have := hf.1
      rw [h1] at this
      omega
    · obtain rfl := found_same hf ht
      exact .inl ⟨hts, rfl⟩
  · obtain rfl := found_same hf ht
    rw [if_neg (by rw [e]; decide)]
    by_cases hn : n = 1
    · rw [if_pos hn]; exact .inr (.inl ⟨hts, hn, rfl⟩)
    · rw [if_neg hn]; exact .inr (.inr ⟨hts, hn, rfl⟩)
end Go.Proofs.Ytebkkbmplndcpaa
