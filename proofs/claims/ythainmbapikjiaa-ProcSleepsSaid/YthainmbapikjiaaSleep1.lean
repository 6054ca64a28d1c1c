/- Sleepers: plain facts of the law. -/
import Derived.Test.YthainmbapikjiaaProc6
namespace Go.Proofs.Ythainmbapikjiaa
open Go.RowKit Go.Sort
set_option linter.unusedVariables false
set_option linter.unusedSimpArgs false
set_option maxRecDepth 100000

/-- The table and what is known of those who sleep. -/
structure SlInv (T : TabD) (p : Int → Bool) (F : Int → Int) : Prop where
  up : (pidsL T.list).Pairwise (· < ·)
  most : T.most = 16
  first : ∃ s, T.list[0]? = some s ∧ s.pid = 1
  sane : ∀ s ∈ T.list, s.state ≠ 3 ∧ s.pid ≤ T.last ∧ 1 ≤ s.pid ∧ 1 ≤ T.last
  asleep : ∀ s ∈ T.list, s.state = 2 → p s.pid = true ∧ F s.pid = s.til ∧ T.now < s.til
  awake : ∀ s ∈ T.list, s.state ≠ 2 → p s.pid = false
  known : ∀ k, p k = true → k ∈ pidsL T.list
  nil : ∀ k, p k = false → F k = 0
theorem SlInv.nodup {T : TabD} {p : Int → Bool} {F : Int → Int} (h : SlInv T p F) : (pidsL T.list).Nodup := h.up.imp fun h => by omega
theorem sl_new : SlInv (newT 16) (fun _ => false) (fun _ => 0) where
  up := by simp [newT, pidsL]
  most := rfl
  first := ⟨firstProc, rfl, rfl⟩
  sane := by intro s hs; simp only [newT, List.mem_singleton] at hs; subst hs; exact ⟨by decide, by decide, by decide, by decide⟩
  asleep := by intro s hs h2; simp only [newT, List.mem_singleton] at hs; subst hs; exact absurd h2 (by decide)
  awake := fun _ _ _ => rfl
  known := by intro k h; cases h
  nil := fun _ _ => rfl
theorem SlInv.found1 {T : TabD} {p : Int → Bool} {F : Int → Int} (h : SlInv T p F) : ∃ s, Found T 1 0 s ∧ s.state ≠ 3 := by
  obtain ⟨s, h1, h2⟩ := h.first
  have h3 := findI_nodup h.nodup h1
  rw [h2] at h3
  exact ⟨s, ⟨h3, h1⟩, (h.sane s (List.mem_of_getElem? h1)).1⟩
theorem SlInv.pid {T : TabD} {p : Int → Bool} {F : Int → Int} (h : SlInv T p F) {k : Int} (hk : k ∈ pidsL T.list) (hl : T.last ≤ 100) : I64 k := by
  obtain ⟨s, hs, rfl⟩ := List.mem_map.1 hk
  have := h.sane s hs
  unfold I64
  omega
theorem SlInv.get {T : TabD} {p : Int → Bool} {F : Int → Int} (h : SlInv T p F) {k : Int} (hk : p k = true) : ∃ i s, Found T k i s ∧ s.state = 2 ∧ s.til = F k ∧ T.now < F k := by
  obtain ⟨s, hs, he⟩ := List.mem_map.1 (h.known k hk)
  obtain ⟨i, hi⟩ := List.getElem?_of_mem hs
  have h3 := findI_nodup h.nodup hi
  rw [he] at h3
  by_cases h2 : s.state = 2
  · obtain ⟨_, a2, a3⟩ := h.asleep s hs h2
    rw [he] at a2
    exact ⟨i, s, ⟨h3, hi⟩, h2, a2.symm, by omega⟩
  · have := h.awake s hs h2
    rw [he, hk] at this
    cases this
/-- The process that is forked. -/
def babyP (n : Int) : ProcD := ⟨n, 1, 1, 0, 0, false⟩
theorem sl_fork {T : TabD} {p : Int → Bool} {F : Int → Int} (h : SlInv T p F) :
    SlInv { T with last := T.last + 1, list := T.list ++ [babyP (T.last + 1)] } p F ∧ Found { T with last := T.last + 1, list := T.list ++ [babyP (T.last + 1)] } (T.last + 1) T.list.length (babyP (T.last + 1)) := by
  have hno : p (T.last + 1) = false := by
    cases e : p (T.last + 1) with
    | false => rfl
    | true =>
      obtain ⟨s, hs, he⟩ := List.mem_map.1 (h.known _ e)
      have := (h.sane s hs).2.1
      omega
  have hup : (pidsL (T.list ++ [babyP (T.last + 1)])).Pairwise (· < ·) := by
    unfold pidsL
    rw [List.map_append, List.pairwise_append]
    refine ⟨h.up, by simp, ?_⟩
    intro a ha b hb
    obtain ⟨s, hs, rfl⟩ := List.mem_map.1 ha
    simp only [List.map_cons, List.map_nil, List.mem_singleton] at hb
    subst hb
    have := (h.sane s hs).2.1
    show s.pid < T.last + 1
    omega
  have hget : (T.list ++ [babyP (T.last + 1)])[T.list.length]? = some (babyP (T.last + 1)) := by simp
  refine ⟨⟨hup, h.most, ?_, ?_, ?_, ?_, ?_, h.nil⟩, ?_, hget⟩
  · obtain ⟨s, h1, h2⟩ := h.first
    refine ⟨s, ?_, h2⟩
    show (T.list ++ [babyP (T.last + 1)])[0]? = some s
    rw [List.getElem?_append_left (by exact (List.getElem?_eq_some_iff.1 h1).1)]
    exact h1
  · intro s hs
    rcases List.mem_append.1 hs with hs | hs
    · have := h.sane s hs
      exact ⟨this.1, by show s.pid ≤ T.last + 1; omega, this.2.2.1, by show 1 ≤ T.last + 1; omega⟩
    · obtain rfl := List.mem_singleton.1 hs
      obtain ⟨s1, q1, _⟩ := h.first
      have q2 := (h.sane s1 (List.mem_of_getElem? q1)).2.2.2
      exact ⟨by show ¬ ((1 : Int) = 3); decide, Int.le_refl _, by show 1 ≤ T.last + 1; omega, by show 1 ≤ T.last + 1; omega⟩
  · intro s hs h2
    rcases List.mem_append.1 hs with hs | hs
    · exact h.asleep s hs h2
    · obtain rfl := List.mem_singleton.1 hs
      exact absurd h2 (by show ¬ ((1 : Int) = 2); decide)
  · intro s hs h2
    rcases List.mem_append.1 hs with hs | hs
    · exact h.awake s hs h2
    · obtain rfl := List.mem_singleton.1 hs
      exact hno
  · intro k hk
    show k ∈ pidsL (T.list ++ [babyP (T.last + 1)])
    unfold pidsL
    rw [List.map_append]
    exact List.mem_append_left _ (h.known k hk)
  · exact findI_nodup (hup.imp fun h => by omega) hget
theorem pidsL_set {l : List ProcD} {i : Nat} {s t : ProcD} (h : l[i]? = some s) (e : t.pid = s.pid) : pidsL (l.set i t) = pidsL l := by
  unfold pidsL
  rw [List.map_set, e]
  refine List.ext_getElem? fun j => ?_
  rw [List.getElem?_set]
  by_cases hj : i = j
  · subst hj
    obtain ⟨hl, h2⟩ := List.getElem?_eq_some_iff.1 h
    rw [if_pos rfl, if_pos (by rw [List.length_map]; exact hl), List.getElem?_map, h]
    rfl
  · rw [if_neg hj]
theorem SlInv.same {T : TabD} {p p' : Int → Bool} {F F' : Int → Int} (h : SlInv T p F) (hp : ∀ k, p k = p' k) (hF : ∀ k, F k = F' k) : SlInv T p' F' := by
  obtain rfl : p = p' := funext hp
  obtain rfl : F = F' := funext hF
  exact h
theorem sl_sleep {T : TabD} {p : Int → Bool} {F : Int → Int} (h : SlInv T p F) {q : Int} {i : Nat} {s : ProcD} (hf : Found T q i s) (hnow : T.now = 0) {n : Int} (h0 : 0 < n) (h1 : n ≤ 1048576) :
    SlInv { T with list := T.list.set i (sleepP T.now n s) } (fun k => p k || decide (k = q)) (fun k => if k = q then n else F k) := by
  have hmem := List.mem_of_getElem? hf.2
  obtain ⟨hl, hge⟩ := List.getElem?_eq_some_iff.1 hf.2
  have hpid : s.pid = q := by
    have := hf.1
    rcases firstT_or (pidB q) T.list with ⟨_, _⟩ | ⟨j, t, b1, b2, b3, _⟩
    · rename_i c1 c2; unfold findI at this; rw [c1] at this; omega
    · unfold findI at this; rw [b1] at this
      obtain rfl : j = i := by omega
      rw [hf.2] at b2
      cases b2
      exact of_decide_eq_true b3
  have hafter : afterT T.now n = n := by unfold afterT; rw [hnow]; omega
  have hps : pidsL (T.list.set i (sleepP T.now n s)) = pidsL T.list := pidsL_set hf.2 rfl
  have hother : ∀ t ∈ T.list.set i (sleepP T.now n s), t = sleepP T.now n s ∨ (t ∈ T.list ∧ t.pid ≠ q) := by
    intro t ht
    obtain ⟨j, hj⟩ := List.getElem?_of_mem ht
    rw [List.getElem?_set] at hj
    by_cases e : i = j
    · left
      rw [if_pos e] at hj
      by_cases hl2 : i < T.list.length
      · first | (rw [if_pos hl2] at hj; exact (Option.some.inj hj).symm) | (simp only [hl2, if_true, Option.some.injEq] at hj; exact hj.symm)
      · exact absurd hl hl2
    · rw [if_neg e] at hj
      right
      refine ⟨List.mem_of_getElem? hj, fun e2 => e ?_⟩
      have := findI_nodup h.nodup hj
      rw [e2, hf.1] at this
      omega
  refine ⟨by rw [hps]; exact h.up, h.most, ?_, ?_, ?_, ?_, ?_, ?_⟩
  · obtain ⟨t, a1, a2⟩ := h.first
    by_cases e : i = 0
    · subst e
      rw [hf.2] at a1
      cases a1
      exact ⟨sleepP T.now n s, by show (T.list.set 0 _)[0]? = _; rw [List.getElem?_set_self hl], a2⟩
    · exact ⟨t, by show (T.list.set i _)[0]? = _; rw [List.getElem?_set_ne e]; exact a1, a2⟩
  · intro t ht
    rcases hother t ht with rfl | ⟨ht, _⟩
    · exact ⟨by show ¬ ((2 : Int) = 3); decide, (h.sane s hmem).2⟩
    · exact h.sane t ht
  · intro t ht h2
    rcases hother t ht with rfl | ⟨ht, hne⟩
    · refine ⟨?_, ?_, ?_⟩
      · show (p s.pid || decide (s.pid = q)) = true
        rw [decide_eq_true hpid, Bool.or_true]
      · show (if s.pid = q then n else F s.pid) = afterT T.now n
        rw [if_pos hpid, hafter]
      · show T.now < afterT T.now n
        rw [hafter, hnow]; exact h0
    · obtain ⟨a1, a2, a3⟩ := h.asleep t ht h2
      exact ⟨by rw [a1]; rfl, by rw [if_neg hne]; exact a2, a3⟩
  · intro t ht h2
    rcases hother t ht with rfl | ⟨ht, hne⟩
    · exact absurd rfl h2
    · rw [h.awake t ht h2, decide_eq_false hne]; rfl
  · intro k hk
    show k ∈ pidsL (T.list.set i (sleepP T.now n s))
    rw [hps]
    rcases Bool.or_eq_true_iff.1 hk with hk | hk
    · exact h.known k hk
    · rw [of_decide_eq_true hk, ← hpid]
      exact List.mem_map.2 ⟨s, hmem, rfl⟩
  · intro k hk
    obtain ⟨a, b⟩ := Bool.or_eq_false_iff.1 hk
    rw [if_neg (of_decide_eq_false b)]
    exact h.nil k a
/-- What Tick hands back. -/
theorem sl_woken {T : TabD} {p : Int → Bool} {F : Int → Int} (h : SlInv T p F) (hnow : 0 ≤ T.now) (x : Int) :
    (thoseL (dueB x) T.list).Pairwise (· < ·) ∧ ∀ k ∈ thoseL (dueB x) T.list, p k = true ∧ F k ≠ 0 ∧ F k ≤ x := by
  constructor
  · unfold thoseL
    exact h.up.sublist (List.Sublist.map _ (List.filter_sublist))
  · intro k hk
    obtain ⟨s, hs, rfl⟩ := List.mem_map.1 hk
    obtain ⟨hs, hd⟩ := List.mem_filter.1 hs
    unfold dueB at hd
    obtain ⟨d1, d2⟩ := Bool.and_eq_true_iff.1 hd
    obtain ⟨a1, a2, a3⟩ := h.asleep s hs (of_decide_eq_true d1)
    have d2 := of_decide_eq_true d2
    exact ⟨a1, by omega, by omega⟩
theorem sl_tick {T : TabD} {p : Int → Bool} {F : Int → Int} (h : SlInv T p F) (hnow : 0 ≤ T.now) {n x : Int} (hx : afterT T.now n = x) (hge : T.now ≤ x) :
    SlInv (tickT T n) (fun k => p k && !decide (k ∈ thoseL (dueB x) T.list)) (fun k => if k ∈ thoseL (dueB x) T.list then 0 else F k) := by
  have hin : ∀ s ∈ T.list, (s.pid ∈ thoseL (dueB x) T.list ↔ dueB x s = true) := by
    intro s hs
    constructor
    · intro hm
      obtain ⟨t, ht, e⟩ := List.mem_map.1 hm
      obtain ⟨ht, hd⟩ := List.mem_filter.1 ht
      obtain ⟨i, hi⟩ := List.getElem?_of_mem hs
      obtain ⟨j, hj⟩ := List.getElem?_of_mem ht
      have e1 := findI_nodup h.nodup hi
      have e2 := findI_nodup h.nodup hj
      rw [e, e1] at e2
      obtain rfl : i = j := by omega
      rw [hi] at hj
      cases hj
      exact hd
    · intro hd
      exact List.mem_map.2 ⟨s, List.mem_filter.2 ⟨hs, hd⟩, rfl⟩
  have hps : pidsL (tickT T n).list = pidsL T.list := by
    unfold tickT pidsL
    rw [List.map_map]
    refine List.map_congr_left fun s _ => ?_
    show (if _ then wakeP s else s).pid = s.pid
    split <;> rfl
  have hmem : ∀ t ∈ (tickT T n).list, ∃ s ∈ T.list, t = if dueB x s then wakeP s else s := by
    intro t ht
    obtain ⟨s, hs, e⟩ := List.mem_map.1 ht
    rw [hx] at e
    exact ⟨s, hs, e.symm⟩
  refine ⟨by rw [hps]; exact h.up, h.most, ?_, ?_, ?_, ?_, ?_, ?_⟩
  · obtain ⟨s, a1, a2⟩ := h.first
    refine ⟨if dueB (afterT T.now n) s then wakeP s else s, ?_, ?_⟩
    · show (T.list.map _)[0]? = _
      rw [List.getElem?_map, a1]; rfl
    · split
      · exact a2
      · exact a2
  · intro t ht
    obtain ⟨s, hs, rfl⟩ := hmem t ht
    have := h.sane s hs
    split
    · exact ⟨by show ¬ ((1 : Int) = 3); decide, this.2⟩
    · exact this
  · intro t ht h2
    obtain ⟨s, hs, rfl⟩ := hmem t ht
    by_cases hd : dueB x s = true
    · rw [if_pos hd] at h2
      exact absurd h2 (by show ¬ ((1 : Int) = 2); decide)
    · rw [if_neg hd] at h2 ⊢
      obtain ⟨a1, a2, a3⟩ := h.asleep s hs h2
      have hnd : ¬ s.pid ∈ thoseL (dueB x) T.list := fun e => hd ((hin s hs).1 e)
      refine ⟨by rw [a1, decide_eq_false hnd]; rfl, by rw [if_neg hnd]; exact a2, ?_⟩
      show afterT T.now n < s.til
      rw [hx]
      unfold dueB at hd
      rw [decide_eq_true h2, Bool.true_and] at hd
      have := of_decide_eq_false (Bool.eq_false_iff.2 hd)
      omega
  · intro t ht h2
    obtain ⟨s, hs, rfl⟩ := hmem t ht
    by_cases hd : dueB x s = true
    · rw [if_pos hd]
      show (p s.pid && !decide (s.pid ∈ thoseL (dueB x) T.list)) = false
      rw [decide_eq_true ((hin s hs).2 hd), Bool.not_true, Bool.and_false]
    · rw [if_neg hd] at h2 ⊢
      rw [h.awake s hs h2, Bool.false_and]
  · intro k hk
    rw [hps]
    exact h.known k (Bool.and_eq_true_iff.1 hk).1
  · intro k hk
    by_cases hm : k ∈ thoseL (dueB x) T.list
    · rw [if_pos hm]
    · rw [if_neg hm]
      rw [decide_eq_false hm, Bool.not_false, Bool.and_true] at hk
      exact h.nil k hk
end Go.Proofs.Ythainmbapikjiaa
