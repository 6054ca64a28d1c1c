/- A table of processes: what each act comes to, as plain functions, and what stays true. -/
import Derived.Test.YtebkkbmplndcpaaGjgkkipkf
namespace Go.Proofs.Ytebkkbmplndcpaa
open Go.RowKit Go.Sort
set_option linter.unusedVariables false
set_option linter.unusedSimpArgs false
set_option maxRecDepth 100000

theorem turn256 (c : Int) : (c.tmod 256 + 256).tmod 256 = c % 256 := by
  have h1 := Int.tmod_add_mul_tdiv c 256
  have h2 : -256 < c.tmod 256 := Int.lt_tmod_of_pos c (b := 256) (by decide)
  rw [Int.tmod_eq_emod_of_nonneg (by omega)]
  omega
theorem and255 (c : Int) : bits .and .i64 c 255 = c % 256 := by
  unfold bits
  simp only [BitVec.toNat_and]
  have h : (BitVec.ofInt IntKind.i64.bits 255).toNat = 2 ^ 8 - 1 := rfl
  rw [h, Nat.and_two_pow_sub_one_eq_mod]
  have h2 : ((BitVec.ofInt IntKind.i64.bits c).toNat : Int) % 256 = c % 256 := by
    show ((BitVec.ofInt 64 c).toNat : Int) % 256 = _
    rw [BitVec.toNat_ofInt]
    omega
  rw [IntWalk.i64_in _ (by omega)]
  omega
/-- Is none there that lives? -/
def goneB (T : TabD) (n : Int) : Bool := match T.list.find? (pidB n) with
  | none => true
  | some s => decide (s.state = 3)
theorem found_find {l : List ProcD} {n : Int} {i : Nat} {s : ProcD} (h : l[i]? = some s) (hs : s.pid = n) (hb : ∀ (j : Nat) (t : ProcD), j < i → l[j]? = some t → t.pid ≠ n) : l.find? (pidB n) = some s := by
  induction l generalizing i with
  | nil => cases h
  | cons x l ih =>
    cases i with
    | zero =>
      obtain rfl : x = s := by simpa using h
      exact List.find?_cons_of_pos (decide_eq_true hs)
    | succ i =>
      rw [List.find?_cons_of_neg (by rw [show pidB n x = false from decide_eq_false (hb 0 x (Nat.succ_pos _) rfl)]; decide)]
      exact ih (by simpa using h) fun j t hj ht => hb (j + 1) t (by omega) (by simpa using ht)
theorem gone_cases (T : TabD) (n : Int) : (goneB T n = true ∧ Gone T n) ∨ (goneB T n = false ∧ ∃ i s, Found T n i s ∧ s.state ≠ 3 ∧ s.pid = n) := by
  rcases found_or T n with ⟨h, hn⟩ | ⟨i, s, h, hp, hb⟩
  · refine .inl ⟨?_, .inl h⟩
    unfold goneB
    rw [List.find?_eq_none.2 (fun x hx => by rw [show pidB n x = false from decide_eq_false (hn x hx)]; decide)]
  · have hf := found_find h.2 hp hb
    by_cases hs : s.state = 3
    · refine .inl ⟨?_, .inr ⟨i, s, h, hs⟩⟩
      unfold goneB
      rw [hf]
      exact decide_eq_true hs
    · refine .inr ⟨?_, i, s, h, hs, hp⟩
      unfold goneB
      rw [hf]
      exact decide_eq_false hs
/-- One of a Pid is another one. -/
def hitL (f : ProcD → ProcD) (n : Int) (l : List ProcD) : List ProcD := l.map fun u => if u.pid = n then f u else u
theorem nodup_at {l : List ProcD} (hnd : (pidsL l).Nodup) {i j : Nat} {s t : ProcD} (hi : l[i]? = some s) (hj : l[j]? = some t) (h : s.pid = t.pid) : i = j := by
  have h1 := findI_nodup hnd hi
  have h2 := findI_nodup hnd hj
  rw [h, h2] at h1
  omega
theorem hitL_set {f : ProcD → ProcD} {n : Int} {l : List ProcD} (hnd : (pidsL l).Nodup) {i : Nat} {s : ProcD} (hi : l[i]? = some s) (hs : s.pid = n) : l.set i (f s) = hitL f n l := by
  apply List.ext_getElem?
  intro j
  unfold hitL
  rw [List.getElem?_map, List.getElem?_set]
  by_cases e : i = j
  · subst e
    rw [if_pos rfl, if_pos (List.getElem?_eq_some_iff.1 hi).1, hi]
    simp [hs]
  · rw [if_neg e]
    cases hj : l[j]? with
    | none => rfl
    | some t =>
      have : ¬ t.pid = n := fun h => e (nodup_at hnd hi hj (hs.trans h.symm))
      simp [this]
def endP (n c : Int) (u : ProcD) : ProcD := ⟨n, u.parent, 3, c, 0, false⟩
def endL (n c : Int) (l : List ProcD) : List ProcD := ((hitL (endP n c) n l).map (orphP n)).filter fun x => !zomB x
def forkF (T : TabD) (n : Int) : TabD × Int × Int :=
  if goneB T n = true then (T, 0, 18) else if T.most ≤ (T.list.length : Int) then (T, 0, 15) else ({ T with last := T.last + 1, list := T.list ++ [⟨T.last + 1, n, 1, 0, 0, false⟩] }, T.last + 1, 0)
def exitF (T : TabD) (n c : Int) : TabD × Int :=
  if goneB T n = true then (T, 18) else if n = 1 then (T, 1) else ({ T with list := endL n (bits .and .i64 c 255) T.list }, 0)
def waitF (T : TabD) (n : Int) : TabD × Int × Int × Int :=
  if goneB T n = true then (T, 0, 0, 18) else if thoseL (parentB n) T.list = [] then (T, 0, 0, 17) else if firstI (zombieB n) T.list = -1 then (T, 0, 0, 15) else
    ({ T with list := T.list.eraseIdx (firstI (zombieB n) T.list).toNat }, (T.list[(firstI (zombieB n) T.list).toNat]?.getD zeroT).pid, (T.list[(firstI (zombieB n) T.list).toNat]?.getD zeroT).code, 0)
def killF (T : TabD) (n : Int) : TabD × Int :=
  if goneB T n = true then (T, 18) else if n = 1 then (T, 1) else ({ T with list := hitL killP n T.list }, 0)
def stateOf (T : TabD) (n : Int) : Int := (T.list.find? (pidB n)).elim 0 (·.state)
def sleepF (T : TabD) (n k : Int) : TabD × Int :=
  if goneB T n = true then (T, 18) else if stateOf T n = 2 then (T, 22) else if k ≤ 0 then (T, 0) else ({ T with list := hitL (sleepP T.now k) n T.list }, 0)
theorem found_state {T : TabD} {n : Int} {i : Nat} {s : ProcD} (h : Found T n i s) (hp : s.pid = n) : stateOf T n = s.state := by
  rcases found_or T n with ⟨h1, _⟩ | ⟨j, t, h1, h2, h3⟩
  · have := h.1
    rw [h1] at this
    omega
  · have e : (i : Int) = (j : Int) := h.1.symm.trans h1.1
    obtain rfl : i = j := by omega
    unfold stateOf
    rw [found_find h.2 hp h3]
    rfl
/-- What stays true of a table. -/
structure TrInv (T : TabD) : Prop where
  up : (pidsL T.list).Pairwise (· < ·)
  room : (T.list.length : Int) ≤ T.most
  first : ∃ s l, T.list = s :: l ∧ s.pid = 1 ∧ s.state ≠ 3
  sane : ∀ s ∈ T.list, 1 ≤ s.pid ∧ s.pid ≤ T.last
  par : ∀ s ∈ T.list, s.pid ≠ 1 → (∃ u ∈ T.list, u.pid = s.parent ∧ u.state ≠ 3) ∧ s.parent < s.pid ∧ ¬ (s.state = 3 ∧ s.parent = 1)
theorem TrInv.nodup {T : TabD} (h : TrInv T) : (pidsL T.list).Nodup := h.up.imp fun h => by omega
theorem TrInv.len {T : TabD} (h : TrInv T) : 1 ≤ T.list.length := by obtain ⟨s, l, e, _⟩ := h.first; rw [e]; simp
theorem tr_new {m : Int} (hm : 1 ≤ m) : TrInv (newT m) where
  up := by simp [newT, pidsL]
  room := by simpa [newT] using hm
  first := ⟨firstProc, [], rfl, rfl, by decide⟩
  sane := by intro s hs; simp only [newT, List.mem_singleton] at hs; subst hs; exact ⟨by decide, show (1 : Int) ≤ 1 by decide⟩
  par := by intro s hs h; simp only [newT, List.mem_singleton] at hs; subst hs; exact absurd rfl h
/-- Each one changed alike: its Pid, its Parent, and whether it is a Zombie, stay. -/
theorem TrInv.alike {T : TabD} (h : TrInv T) (f : ProcD → ProcD) (now : Int) (hf : ∀ s ∈ T.list, (f s).pid = s.pid ∧ (f s).parent = s.parent ∧ ((f s).state = 3 ↔ s.state = 3)) : TrInv { T with now := now, list := T.list.map f } where
  up := by
    have : pidsL (T.list.map f) = pidsL T.list := by unfold pidsL; rw [List.map_map]; exact List.map_congr_left fun s hs => (hf s hs).1
    show (pidsL (T.list.map f)).Pairwise _
    rw [this]; exact h.up
  room := by show ((T.list.map f).length : Int) ≤ _; rw [List.length_map]; exact h.room
  first := by
    obtain ⟨s, l, e, h1, h2⟩ := h.first
    have hs := hf s (by rw [e]; simp)
    exact ⟨f s, l.map f, by show T.list.map f = _; rw [e]; rfl, hs.1.trans h1, fun e => h2 (hs.2.2.1 e)⟩
  sane := by
    intro x hx
    obtain ⟨s, hs, rfl⟩ := List.mem_map.1 hx
    show 1 ≤ (f s).pid ∧ (f s).pid ≤ T.last
    rw [(hf s hs).1]
    exact h.sane s hs
  par := by
    intro x hx hp
    obtain ⟨s, hs, rfl⟩ := List.mem_map.1 hx
    obtain ⟨e1, e2, e3⟩ := hf s hs
    rw [e1] at hp ⊢
    obtain ⟨⟨u, hu, h1, h2⟩, h3, h4⟩ := h.par s hs hp
    refine ⟨⟨f u, List.mem_map_of_mem hu, by rw [(hf u hu).1, e2, h1], fun e => h2 ((hf u hu).2.2.1 e)⟩, by rw [e2]; exact h3, fun e => h4 ⟨e3.1 e.1, e2 ▸ e.2⟩⟩
theorem TrInv.hit {T : TabD} (h : TrInv T) (f : ProcD → ProcD) (n : Int) (hs : ∀ s ∈ T.list, s.pid = n → s.state ≠ 3) (hf : ∀ s, (f s).pid = s.pid ∧ (f s).parent = s.parent ∧ (f s).state ≠ 3) : TrInv { T with list := hitL f n T.list } := by
  refine h.alike _ T.now fun s hm => ?_
  by_cases e : s.pid = n
  · rw [if_pos e]
    exact ⟨(hf s).1, (hf s).2.1, ⟨fun e2 => absurd e2 (hf s).2.2, fun e2 => absurd e2 (hs s hm e)⟩⟩
  · rw [if_neg e]
    exact ⟨rfl, rfl, Iff.rfl⟩
theorem alive_of {T : TabD} (h : TrInv T) {n : Int} {i : Nat} {s : ProcD} (hf : Found T n i s) (hs : s.state ≠ 3) (hp : s.pid = n) : ∀ t ∈ T.list, t.pid = n → t.state ≠ 3 := by
  intro t ht e
  obtain ⟨j, hj⟩ := List.getElem?_of_mem ht
  obtain rfl := nodup_at h.nodup hf.2 hj (hp.trans e.symm)
  rw [hf.2] at hj
  cases hj
  exact hs
theorem tr_kill {T : TabD} (h : TrInv T) (n : Int) : TrInv (killF T n).1 := by
  unfold killF
  rcases gone_cases T n with ⟨e, _⟩ | ⟨e, i, s, hf, hs, hp⟩
  · rw [if_pos e]; exact h
  · rw [if_neg (by rw [e]; decide)]
    split
    · exact h
    · exact h.hit killP n (alive_of h hf hs hp) fun s => ⟨rfl, rfl, show ¬ (1 : Int) = 3 by decide⟩
theorem tr_sleep {T : TabD} (h : TrInv T) (n k : Int) : TrInv (sleepF T n k).1 := by
  unfold sleepF
  rcases gone_cases T n with ⟨e, _⟩ | ⟨e, i, s, hf, hs, hp⟩
  · rw [if_pos e]; exact h
  · rw [if_neg (by rw [e]; decide)]
    split
    · exact h
    · split
      · exact h
      · exact h.hit (sleepP T.now k) n (alive_of h hf hs hp) fun s => ⟨rfl, rfl, show ¬ (2 : Int) = 3 by decide⟩
theorem tr_tick {T : TabD} (h : TrInv T) (n : Int) : TrInv (tickT T n) := by
  refine h.alike _ _ fun s hm => ?_
  by_cases e : dueB (afterT T.now n) s = true
  · rw [if_pos e]
    have h2 : s.state = 2 := of_decide_eq_true (Bool.and_eq_true_iff.1 e).1
    exact ⟨rfl, rfl, ⟨fun e2 => absurd e2 (show ¬ (1 : Int) = 3 by decide), fun e2 => by omega⟩⟩
  · rw [if_neg e]
    exact ⟨rfl, rfl, Iff.rfl⟩
theorem tr_fork {T : TabD} (h : TrInv T) (n : Int) : TrInv (forkF T n).1 := by
  unfold forkF
  rcases gone_cases T n with ⟨e, _⟩ | ⟨e, i, s, hf, hs, hp⟩
  · rw [if_pos e]; exact h
  · rw [if_neg (by rw [e]; decide)]
    split
    · exact h
    · have hmem := List.mem_of_getElem? hf.2
      have hsl := h.sane s hmem
      refine ⟨?_, ?_, ?_, ?_, ?_⟩
      · show (pidsL (T.list ++ [_])).Pairwise _
        unfold pidsL
        rw [List.map_append, List.pairwise_append]
        refine ⟨h.up, by simp, ?_⟩
        intro a ha b hb
        obtain ⟨u, hu, rfl⟩ := List.mem_map.1 ha
        have := h.sane u hu
        simp only [List.map_cons, List.map_nil, List.mem_singleton] at hb
        subst hb
        show u.pid < T.last + 1
        omega
      · show ((T.list ++ [_]).length : Int) ≤ T.most
        rw [List.length_append, List.length_singleton]
        omega
      · obtain ⟨u, l, e, h1, h2⟩ := h.first
        exact ⟨u, l ++ [⟨T.last + 1, n, 1, 0, 0, false⟩], by show T.list ++ _ = _; rw [e]; rfl, h1, h2⟩
      · intro x hx
        show 1 ≤ x.pid ∧ x.pid ≤ T.last + 1
        rcases List.mem_append.1 hx with hx | hx
        · have := h.sane x hx; omega
        · rw [List.mem_singleton] at hx
          subst hx
          show 1 ≤ T.last + 1 ∧ T.last + 1 ≤ T.last + 1
          omega
      · intro x hx hp1
        rcases List.mem_append.1 hx with hx | hx
        · obtain ⟨⟨u, hu, h1⟩, h2⟩ := h.par x hx hp1
          exact ⟨⟨u, List.mem_append_left _ hu, h1⟩, h2⟩
        · rw [List.mem_singleton] at hx
          subst hx
          exact ⟨⟨s, List.mem_append_left _ hmem, hp, hs⟩, show n < T.last + 1 by omega, fun e => absurd e.1 (show ¬ (1 : Int) = 3 by decide)⟩
theorem zombieB_is {n : Int} {c : ProcD} : zombieB n c = true ↔ c.state = 3 ∧ c.parent = n := by
  unfold zombieB
  rw [Bool.and_eq_true_iff, decide_eq_true_iff, decide_eq_true_iff]
theorem tr_wait {T : TabD} (h : TrInv T) (n : Int) : TrInv (waitF T n).1 := by
  unfold waitF
  split
  · exact h
  · split
    · exact h
    · split
      · exact h
      · rename_i hz
        rcases firstT_or (zombieB n) T.list with ⟨h1, _⟩ | ⟨k, c, h1, h2, h3, _⟩
        · exact absurd h1 hz
        rw [h1]
        show TrInv { T with list := T.list.eraseIdx k }
        obtain ⟨c1, c2⟩ := zombieB_is.1 h3
        have hsub := List.eraseIdx_sublist T.list k
        have hkeep : ∀ u ∈ T.list, u.state ≠ 3 → u ∈ T.list.eraseIdx k := by
          intro u hu hs
          obtain ⟨j, hj⟩ := List.getElem?_of_mem hu
          refine List.mem_eraseIdx_iff_getElem?.2 ⟨j, ?_, hj⟩
          intro e
          subst e
          rw [h2] at hj
          cases hj
          exact hs c1
        refine ⟨?_, ?_, ?_, ?_, ?_⟩
        · exact h.up.sublist (List.Sublist.map _ hsub)
        · have := hsub.length_le
          have := h.room
          show ((T.list.eraseIdx k).length : Int) ≤ T.most
          omega
        · obtain ⟨s, l, e, s1, s2⟩ := h.first
          cases k with
          | zero =>
            rw [e] at h2
            obtain rfl : s = c := by simpa using h2
            exact absurd c1 s2
          | succ k => exact ⟨s, l.eraseIdx k, by show T.list.eraseIdx (k + 1) = _; rw [e]; rfl, s1, s2⟩
        · exact fun x hx => h.sane x (hsub.mem hx)
        · intro x hx hp
          obtain ⟨⟨u, hu, u1, u2⟩, h5⟩ := h.par x (hsub.mem hx) hp
          exact ⟨⟨u, hkeep u hu u2, u1, u2⟩, h5⟩
theorem mem_endL {n c : Int} {l : List ProcD} {x : ProcD} (h : x ∈ endL n c l) : zomB x = false ∧ ∃ y ∈ l, (y.pid = n ∧ x = orphP n (endP n c y)) ∨ (y.pid ≠ n ∧ x = orphP n y) := by
  unfold endL hitL at h
  obtain ⟨h1, h2⟩ := List.mem_filter.1 h
  obtain ⟨z, hz, rfl⟩ := List.mem_map.1 h1
  obtain ⟨y, hy, rfl⟩ := List.mem_map.1 hz
  refine ⟨by simpa using h2, y, hy, ?_⟩
  by_cases e : y.pid = n
  · exact .inl ⟨e, by rw [if_pos e]⟩
  · exact .inr ⟨e, by rw [if_neg e]⟩
theorem endL_mem {n c : Int} {l : List ProcD} {y : ProcD} (hy : y ∈ l) (hn : y.pid ≠ n) (hs : y.state ≠ 3) : orphP n y ∈ endL n c l := by
  unfold endL hitL
  refine List.mem_filter.2 ⟨List.mem_map_of_mem (List.mem_map.2 ⟨y, hy, by rw [if_neg hn]⟩), ?_⟩
  have : (orphP n y).state = y.state := by unfold orphP; split <;> rfl
  unfold zomB
  rw [this, decide_eq_false hs]
  rfl
theorem orph_pid (n : Int) (y : ProcD) : (orphP n y).pid = y.pid ∧ (orphP n y).state = y.state ∧ (orphP n y).code = y.code := by unfold orphP; split <;> exact ⟨rfl, rfl, rfl⟩
theorem zomB_is {c : ProcD} : zomB c = true ↔ c.state = 3 ∧ c.parent = 1 := by
  unfold zomB
  rw [Bool.and_eq_true_iff, decide_eq_true_iff, decide_eq_true_iff]
theorem tr_end {T : TabD} (h : TrInv T) (n c : Int) (hn : n ≠ 1) (hex : ∀ s ∈ T.list, s.pid = n → s.state ≠ 3) : TrInv { T with list := endL n c T.list } := by
  obtain ⟨s, l, e, s1, s2⟩ := h.first
  have hhead : ∃ r, endL n c T.list = orphP n s :: r := by
    rw [e]
    unfold endL hitL
    have hz : zomB (orphP n s) = false := by
      cases hz : zomB (orphP n s) with
      | false => rfl
      | true => exact absurd ((zomB_is.1 hz).1) (by rw [(orph_pid n s).2.1]; exact s2)
    rw [List.map_cons, if_neg (by rw [s1]; exact fun e => hn e.symm), List.map_cons, List.filter_cons_of_pos (by rw [hz]; rfl)]
    exact ⟨_, rfl⟩
  obtain ⟨r, hr⟩ := hhead
  have hpm : pidsL ((hitL (endP n c) n T.list).map (orphP n)) = pidsL T.list := by
    unfold pidsL hitL
    rw [List.map_map, List.map_map]
    refine List.map_congr_left fun s _ => ?_
    show (orphP n (if s.pid = n then endP n c s else s)).pid = s.pid
    rw [(orph_pid _ _).1]
    split
    · rename_i e; exact e.symm
    · rfl
  refine ⟨?_, ?_, ?_, ?_, ?_⟩
  · show (pidsL (endL n c T.list)).Pairwise _
    have := h.up
    rw [← hpm] at this
    exact this.sublist (List.Sublist.map _ List.filter_sublist)
  · show ((endL n c T.list).length : Int) ≤ T.most
    have h1 : (endL n c T.list).length ≤ T.list.length := by
      unfold endL hitL
      exact Nat.le_trans (List.length_filter_le _ _) (by rw [List.length_map, List.length_map]; exact Nat.le_refl _)
    have := h.room
    omega
  · exact ⟨orphP n s, r, hr, by rw [(orph_pid n s).1]; exact s1, by rw [(orph_pid n s).2.1]; exact s2⟩
  · intro x hx
    obtain ⟨_, y, hy, ⟨e1, rfl⟩ | ⟨_, rfl⟩⟩ := mem_endL hx
    · have := h.sane y hy
      show 1 ≤ (orphP n (endP n c y)).pid ∧ _ ≤ T.last
      rw [(orph_pid _ _).1]
      show 1 ≤ n ∧ n ≤ T.last
      omega
    · have := h.sane y hy
      show 1 ≤ (orphP n y).pid ∧ _ ≤ T.last
      rw [(orph_pid _ _).1]
      exact this
  · intro x hx hp
    obtain ⟨hz, y, hy, ⟨e1, rfl⟩ | ⟨e1, rfl⟩⟩ := mem_endL hx
    · obtain ⟨⟨u, hu, u1, u2⟩, h3, _⟩ := h.par y hy (by rw [e1]; exact hn)
      have hpar : (endP n c y).parent ≠ n := by show y.parent ≠ n; omega
      have ho : orphP n (endP n c y) = endP n c y := by unfold orphP; rw [if_neg hpar]
      rw [ho] at hz ⊢
      refine ⟨⟨orphP n u, endL_mem hu (by rw [u1]; omega) u2, by rw [(orph_pid n u).1]; exact u1, by rw [(orph_pid n u).2.1]; exact u2⟩, by show y.parent < n; omega, fun e => ?_⟩
      rw [zomB_is.2 e] at hz
      cases hz
    · rw [(orph_pid n y).1] at hp ⊢
      obtain ⟨⟨u, hu, u1, u2⟩, h3, h4⟩ := h.par y hy hp
      have hys := h.sane y hy
      by_cases e2 : y.parent = n
      · have ho : (orphP n y).parent = 1 := by unfold orphP; rw [if_pos e2]
        rw [ho]
        refine ⟨⟨orphP n s, by rw [show ({ T with list := endL n c T.list } : TabD).list = endL n c T.list from rfl, hr]; simp, by rw [(orph_pid n s).1]; exact s1, by rw [(orph_pid n s).2.1]; exact s2⟩, by omega, fun e => ?_⟩
        rw [zomB_is.2 ⟨e.1, ho⟩] at hz
        cases hz
      · have ho : orphP n y = y := by unfold orphP; rw [if_neg e2]
        rw [ho] at hz ⊢
        exact ⟨⟨orphP n u, endL_mem hu (by rw [u1]; exact e2) u2, by rw [(orph_pid n u).1]; exact u1, by rw [(orph_pid n u).2.1]; exact u2⟩, h3, h4⟩
theorem tr_exit {T : TabD} (h : TrInv T) (n c : Int) : TrInv (exitF T n c).1 := by
  unfold exitF
  rcases gone_cases T n with ⟨e, _⟩ | ⟨e, i, s, hf, hs, hp⟩
  · rw [if_pos e]; exact h
  · rw [if_neg (by rw [e]; decide)]
    split
    · exact h
    · rename_i hn
      exact tr_end h n _ hn (alive_of h hf hs hp)
end Go.Proofs.Ytebkkbmplndcpaa
