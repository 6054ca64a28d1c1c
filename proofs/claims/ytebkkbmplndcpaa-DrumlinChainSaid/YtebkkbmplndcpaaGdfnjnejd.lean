/- The chain: who lives has a set; as many ends are open as somebody knows. -/
import Derived.Test.YtebkkbmplndcpaaGhjkgiieo
namespace Go.Proofs.Ytebkkbmplndcpaa
open Go.RowKit Go.Sort
set_option linter.unusedVariables false
set_option linter.unusedSimpArgs false
set_option maxRecDepth 100000

def aliveP (T : TabD) (n : Int) : Prop := ∃ s ∈ T.list, s.pid = n ∧ s.state ≠ 3
theorem aliveP_of {T : TabD} {n : Int} {i : Nat} {s : ProcD} (hf : Found T n i s) (hs : s.state ≠ 3) (hp : s.pid = n) : aliveP T n := ⟨s, List.mem_of_getElem? hf.2, hp, hs⟩
theorem alive_gone {T : TabD} (h : TrInv T) {n : Int} (hg : Gone T n) : ¬ aliveP T n := by
  rintro ⟨s, hs, hp, hst⟩
  rcases hg with hn | ⟨i, t, hf, ht⟩
  · rcases found_or T n with ⟨_, h2⟩ | ⟨j, u, h1, _⟩
    · exact h2 s hs hp
    · have := h1.1; rw [hn] at this; omega
  · obtain ⟨j, hj⟩ := List.getElem?_of_mem hs
    rcases found_or T n with ⟨_, h2⟩ | ⟨k, u, h1, h2, _⟩
    · exact h2 s hs hp
    · have e1 : k = i := by have := h1.1; rw [hf.1] at this; omega
      subst e1
      have e2 : u = t := by have := h1.2; rw [hf.2] at this; exact (Option.some.inj this).symm
      subst e2
      have e3 := nodup_at h.nodup hj hf.2 (hp.trans h2.symm)
      subst e3
      have h9 := hf.2
      rw [hj] at h9
      exact hst (by rw [Option.some.inj h9]; exact ht)
theorem alive_iff {T : TabD} (h : TrInv T) (n : Int) : goneB T n = false ↔ aliveP T n := by
  rcases gone_cases T n with ⟨e, hg⟩ | ⟨e, i, s, hf, hs, hp⟩
  · rw [e]; exact ⟨fun e => (by cases e), fun ha => absurd ha (alive_gone h hg)⟩
  · rw [e]; exact ⟨fun _ => aliveP_of hf hs hp, fun _ => rfl⟩
theorem alive_one {T : TabD} (h : TrInv T) : aliveP T 1 := by
  obtain ⟨s, l, e, h1, h2⟩ := h.first
  exact ⟨s, by rw [e]; simp, h1, h2⟩
theorem alive_fork {T : TabD} (n m c : Int) (l' : ProcD) (hl : l'.pid = c) (hs : l'.state ≠ 3) : aliveP { T with last := m, list := T.list ++ [l'] } n ↔ aliveP T n ∨ n = c := by
  constructor
  · rintro ⟨s, hm, hp, ht⟩
    rcases List.mem_append.1 hm with hm | hm
    · exact .inl ⟨s, hm, hp, ht⟩
    · obtain rfl : s = l' := by simpa using hm
      exact .inr (hp.symm.trans hl)
  · rintro (⟨s, hm, hp, ht⟩ | rfl)
    · exact ⟨s, List.mem_append_left _ hm, hp, ht⟩
    · exact ⟨l', List.mem_append_right _ (by simp), hl, hs⟩
theorem alive_end {T : TabD} (k c n : Int) : aliveP { T with list := endL k c T.list } n ↔ aliveP T n ∧ n ≠ k := by
  constructor
  · rintro ⟨x, hm, hp, ht⟩
    obtain ⟨_, y, hy, ⟨_, rfl⟩ | ⟨hn, rfl⟩⟩ := mem_endL hm
    · exact absurd (by rw [(orph_pid _ _).2.1]; rfl) ht
    · rw [(orph_pid _ _).1] at hp
      rw [(orph_pid _ _).2.1] at ht
      exact ⟨⟨y, hy, hp, ht⟩, by rw [← hp]; exact hn⟩
  · rintro ⟨⟨y, hy, hp, ht⟩, hn⟩
    exact ⟨_, endL_mem hy (by rw [hp]; exact hn) ht, by rw [(orph_pid _ _).1]; exact hp, by rw [(orph_pid _ _).2.1]; exact ht⟩
/-- What the chain keeps. -/
structure CInv (T : TabD) (ss : List CsD) (c o : Nat) (s : PipeD) (sent got : List Nat) : Prop where
  tr : TrInv T
  most : T.most ≤ 8
  nodup : (csPids ss).Nodup
  alive : ∀ n, aliveP T n ↔ n ∈ csPids ss
  cis : c = ss.length
  ois : o = csOut ss
  reads : s.readers = 1
  writes : s.writers = if o = 0 then 0 else 1
  bytes : sent = got ++ content s
theorem sub_len {l m : List Int} (hl : l.Nodup) (h : ∀ x ∈ l, x ∈ m) : l.length ≤ m.length := by
  induction l generalizing m with
  | nil => simp
  | cons x l ih =>
    rw [List.nodup_cons] at hl
    have hx := h x (by simp)
    have := ih (m := m.erase x) hl.2 fun y hy => by
      have hne : y ≠ x := fun e => hl.1 (e ▸ hy)
      rw [List.mem_erase_of_ne hne]
      exact h y (by simp [hy])
    rw [List.length_erase_of_mem hx] at this
    have := List.length_pos_of_mem hx
    rw [List.length_cons]
    omega
section
variable {T : TabD} {ss : List CsD} {c o : Nat} {s : PipeD} {sent got : List Nat}
theorem CInv.few (h : CInv T ss c o s sent got) : ss.length ≤ 8 := by
  have h1 : (csPids ss).length ≤ (pidsL T.list).length := sub_len h.nodup fun n hn => by
    obtain ⟨s, hs, hp, _⟩ := (h.alive n).2 hn
    exact List.mem_map.2 ⟨s, hs, hp⟩
  unfold csPids pidsL at h1
  rw [List.length_map, List.length_map] at h1
  have := h.tr.room
  have := h.most
  omega
theorem csOut_le (ss : List CsD) : csOut ss ≤ ss.length := List.length_filter_le _ _
theorem CInv.there (h : CInv T ss c o s sent got) : thereB s = true := by unfold thereB; rw [h.reads]; simp
theorem CInv.one (h : CInv T ss c o s sent got) : 1 ∈ csPids ss := (h.alive 1).1 (alive_one h.tr)
theorem CInv.pos (h : CInv T ss c o s sent got) : 1 ≤ c := by
  rw [h.cis]
  obtain ⟨x, hx, _⟩ := List.mem_map.1 h.one
  exact List.length_pos_of_mem hx
theorem CInv.bounds (h : CInv T ss c o s sent got) : c ≤ 8 ∧ o ≤ 8 := by
  have := h.few
  have := csOut_le ss
  rw [h.cis, h.ois]
  omega
theorem cs_split {x : CsD} (hx : x ∈ ss) : ∃ l r, ss = l ++ x :: r := List.append_of_mem hx
theorem csOut_cut (l r : List CsD) (x : CsD) : csOut (l ++ x :: r) = csOut (l ++ r) + if x.out = true then 1 else 0 := by
  unfold csOut
  rw [List.filter_append, List.filter_append, List.length_append, List.length_append, List.filter_cons]
  split
  · rw [List.length_cons]; omega
  · omega
/-- One more lives. -/
theorem CInv.born {x : CsD} (h : CInv T ss c o s sent got) (l' : ProcD) (m : Int) (hx : x.pid = l'.pid) (hs : l'.state ≠ 3) (hnew : ¬ x.pid ∈ csPids ss) (htr : TrInv { T with last := m, list := T.list ++ [l'] }) (hw : x.out = true → o ≠ 0) :
    CInv { T with last := m, list := T.list ++ [l'] } (ss ++ [x]) (c + 1) (o + if x.out = true then 1 else 0) s sent got where
  tr := htr
  most := h.most
  nodup := by
    unfold csPids
    rw [List.map_append, List.nodup_append]
    refine ⟨h.nodup, by simp, fun a ha b hb => ?_⟩
    obtain rfl : b = x.pid := by simpa using hb
    intro e
    subst e
    exact hnew ha
  alive := fun n => by
    rw [alive_fork n m x.pid l' hx.symm hs, h.alive]
    unfold csPids
    rw [List.map_append, List.mem_append]
    simp
  cis := by rw [h.cis, List.length_append]; rfl
  ois := by
    have := csOut_cut ss [] x
    rw [List.append_nil] at this
    rw [this, h.ois]
  reads := h.reads
  writes := by
    rw [h.writes]
    by_cases e : x.out = true
    · rw [if_pos e, if_neg (hw e), if_neg (by omega)]
    · rw [if_neg e]; simp
  bytes := h.bytes
/-- One has ended. -/
theorem CInv.dead {x : CsD} {l r : List CsD} (h : CInv T (l ++ x :: r) c o s sent got) (cd : Int) (htr : TrInv { T with list := endL x.pid cd T.list }) (s' : PipeD) (hr : s'.readers = 1) (hw : s'.writers = if csOut (l ++ r) = 0 then 0 else 1) (hb : content s' = content s) :
    CInv { T with list := endL x.pid cd T.list } (l ++ r) (c - 1) (csOut (l ++ r)) s' sent got where
  tr := htr
  most := h.most
  nodup := by
    have := h.nodup
    unfold csPids at this ⊢
    exact this.sublist (List.Sublist.map _ (List.Sublist.append (List.Sublist.refl l) (List.sublist_cons_self x r)))
  alive := fun n => by
    rw [alive_end x.pid cd n, h.alive]
    have hnd := h.nodup
    unfold csPids at hnd ⊢
    rw [List.map_append, List.map_cons, List.nodup_append, List.nodup_cons] at hnd
    obtain ⟨_, ⟨h2, _⟩, h4⟩ := hnd
    rw [List.map_append, List.map_cons, List.map_append, List.mem_append, List.mem_append, List.mem_cons]
    constructor
    · rintro ⟨ha | rfl | hb, hne⟩
      · exact .inl ha
      · exact absurd rfl hne
      · exact .inr hb
    · rintro (ha | hb)
      · exact ⟨.inl ha, h4 n ha _ (by simp)⟩
      · exact ⟨.inr (.inr hb), fun e => h2 (e ▸ hb)⟩
  cis := by
    rw [h.cis, List.length_append, List.length_append, List.length_cons]
    omega
  ois := rfl
  reads := hr
  writes := hw
  bytes := by rw [hb]; exact h.bytes
/-- One has closed its end. -/
theorem CInv.shut {x : CsD} {l r : List CsD} (h : CInv T (l ++ x :: r) c o s sent got) (s' : PipeD) (hr : s'.readers = 1) (hw : s'.writers = if csOut (l ++ r) = 0 then 0 else 1) (hb : content s' = content s) :
    CInv T (l ++ { x with out := false } :: r) c (csOut (l ++ r)) s' sent got where
  tr := h.tr
  most := h.most
  nodup := by
    have e : csPids (l ++ { x with out := false } :: r) = csPids (l ++ x :: r) := by unfold csPids; rw [List.map_append, List.map_append]; rfl
    rw [e]; exact h.nodup
  alive := fun n => by
    have e : csPids (l ++ { x with out := false } :: r) = csPids (l ++ x :: r) := by unfold csPids; rw [List.map_append, List.map_append]; rfl
    rw [e]; exact h.alive n
  cis := by
    rw [h.cis, List.length_append, List.length_append]
    rfl
  ois := by rw [csOut_cut]; rfl
  reads := hr
  writes := hw
  bytes := by rw [hb]; exact h.bytes
/-- Bytes have gone in, or come out. -/
theorem CInv.flow {sent' got' : List Nat} (h : CInv T ss c o s sent got) (s' : PipeD) (hr : s'.readers = s.readers) (hw : s'.writers = s.writers) (hb : sent' = got' ++ content s') : CInv T ss c o s' sent' got' :=
  ⟨h.tr, h.most, h.nodup, h.alive, h.cis, h.ois, by rw [hr, h.reads], by rw [hw, h.writes], hb⟩
theorem map_born {x : CsD} (hnew : ¬ x.pid ∈ csPids ss) (hnd : (csPids ss).Nodup) (k : Int) :
    ((decide (k = x.pid) || csP ss k) = csP (ss ++ [x]) k) ∧ (if k = x.pid then (x.g : Int) + 1 else csF ss k) = csF (ss ++ [x]) k := by
  constructor
  · unfold csP csPids
    rw [List.map_append, Bool.eq_iff_iff]
    simp only [Bool.or_eq_true, decide_eq_true_eq, List.mem_append, List.map_cons, List.map_nil, List.mem_cons, List.not_mem_nil, or_false]
    exact ⟨fun h => h.elim .inr .inl, fun h => h.elim .inr .inl⟩
  · unfold csF
    rw [List.find?_append]
    by_cases e : k = x.pid
    · rw [if_pos e]
      subst e
      rw [List.find?_eq_none.2 (fun y hy e => hnew (by rw [← of_decide_eq_true e]; exact List.mem_map_of_mem hy))]
      simp
    · rw [if_neg e]
      have : List.find? (fun y : CsD => decide (y.pid = k)) [x] = none := by
        rw [List.find?_eq_none]
        intro y hy h
        obtain rfl : y = x := by simpa using hy
        exact e (of_decide_eq_true h).symm
      rw [this, Option.or_none]
theorem map_dead {x : CsD} {l r : List CsD} (hnd : (csPids (l ++ x :: r)).Nodup) (k : Int) :
    ((csP (l ++ x :: r) k && !decide (k = x.pid)) = csP (l ++ r) k) ∧ (if k = x.pid then 0 else csF (l ++ x :: r) k) = csF (l ++ r) k := by
  unfold csPids at hnd
  rw [List.map_append, List.map_cons, List.nodup_append, List.nodup_cons] at hnd
  obtain ⟨_, ⟨h2, _⟩, h4⟩ := hnd
  have hno : ¬ x.pid ∈ csPids (l ++ r) := by
    unfold csPids
    rw [List.map_append, List.mem_append]
    rintro (ha | hb)
    · exact h4 _ ha _ (by simp) rfl
    · exact h2 hb
  constructor
  · unfold csP
    rw [Bool.eq_iff_iff]
    simp only [Bool.and_eq_true, Bool.not_eq_true', decide_eq_true_eq, decide_eq_false_iff_not]
    constructor
    · rintro ⟨h, hne⟩
      unfold csPids at h ⊢
      rw [List.map_append, List.map_cons, List.mem_append, List.mem_cons] at h
      rw [List.map_append, List.mem_append]
      rcases h with h | h | h
      · exact .inl h
      · exact absurd h hne
      · exact .inr h
    · intro h
      refine ⟨?_, fun e => hno (e ▸ h)⟩
      unfold csPids at h ⊢
      rw [List.map_append, List.mem_append] at h
      rw [List.map_append, List.map_cons, List.mem_append, List.mem_cons]
      exact h.elim .inl fun h => .inr (.inr h)
  · by_cases e : k = x.pid
    · rw [if_pos e, e, csF_none hno]
    · rw [if_neg e]
      unfold csF
      rw [List.find?_append, List.find?_append, List.find?_cons_of_neg (by simpa using fun h : x.pid = k => e h.symm)]
end
end Go.Proofs.Ytebkkbmplndcpaa
