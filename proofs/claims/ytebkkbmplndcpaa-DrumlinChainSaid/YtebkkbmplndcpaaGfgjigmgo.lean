/- Pipes, and slices of bytes that grow beside them, apart from one another. -/
import Derived.Test.YtebkkbmplndcpaaGngieaehg
import Derived.Maps.AppendAt
import Derived.Deep.AppendLies
namespace Go.Proofs.Ytebkkbmplndcpaa
open Go.RowKit Go.Sort
set_option linter.unusedVariables false
set_option linter.unusedSimpArgs false
set_option maxRecDepth 100000

theorem append_bytes_at {w : World} {ops : Array Oper} {rest : List Oper} {o : Oper} {a : Act} {Q : Exit → Act → World → Prop} (hgd : o.guard = none) (s x : Operand)
    (ho : o.op = .call { callee := .builtin .append, args := #[s, x], argTypes := #[63, 63] })
    (B : Nat) (v : Value) (l : List Nat) (hs : a.eval s = v) (hown : Owns B w v l) (sa : Option Addr) (m c : Nat) (hx : a.eval x = .slice sa m c) (news : List Nat) (hr : Reads w sa m news)
    (hb : l.length + m ≤ 140737488355328) (hB : B ≤ w.heap.size)
    (h : ∀ v' w', Owns B w' v' (l ++ news) → w.grownBy w' v.ownBlock → (v'.ownBlock = v.ownBlock ∨ v'.ownBlock = some w.heap.size) → wpList Try.prog ops Q rest (a.put o.dst v') w') : wpList Try.prog ops Q (o :: rest) a w := by
  obtain ⟨hl, hown⟩ := hown
  obtain ⟨hlen, hbs, hr⟩ := hr
  obtain ⟨i0, hi, hz0, hz1, hz2⟩ := info_parts info_u8
  have close : ∀ v' w', w'.ownsRow B 5 1 v' (l.length + m) (l.map byteV ++ news.map byteV) → Owns B w' v' (l ++ news) := fun v' w' h' => by
    refine ⟨hl.append hbs, ?_⟩
    rw [List.length_append, hlen, List.map_append]
    exact h'
  cases sa with
  | none =>
    have hn : news = [] := by
      rcases hr with rfl | ⟨b, off, he, _⟩
      · rfl
      · cases he
    subst hn
    obtain rfl : m = 0 := by simpa using hlen.symm
    refine wpList_plain hgd fun K hK => ?_
    have hrun := run_append_nothing (P := Try.prog) (w := w) B 63 o.type 5 i0 1 Try.underlying63 hi v _ _ hown c
    unfold Oper.wp
    simp [execOp, ho, resolve, invoke, builtin, hs, hx, hrun, Result.andThen]
    exact hK _ _ (h _ _ (close _ _ (by simpa using hown)) ⟨rfl, rfl, rfl, Nat.le_refl _, fun _ _ _ => rfl⟩ (.inl rfl))
  | some ad =>
    refine wpList_append_own_at (w := w) hgd s x 63 ho B 5 i0 (.int .u8 0) 1 1 Try.underlying63 hi hz0 hz1 hz2 rfl (by decide) v l.length (l.map byteV) hs hown ad m c (news.map byteV) hx (by simp [hlen])
      ?_ (byteV_oneCell _) (by unfold maxLen; omega) (by omega) hB (fun v' w' h1 h2 _ h4 => h v' w' (close _ _ h1) h2 h4)
    intro j u hu
    rcases hr with rfl | ⟨b, off, he, _, hc⟩
    · simp at hu
    · cases he
      simp only [List.getElem?_map, Option.map_eq_some_iff] at hu
      obtain ⟨y, hy, rfl⟩ := hu
      have hj : j < m := by rw [← hlen]; exact (List.getElem?_eq_some_iff.1 hy).1
      have hadd : (⟨b, off, none⟩ : Addr).add j = ⟨b, off + j, none⟩ := by unfold Addr.add; split <;> simp_all
      rw [hadd, hc j hj]
      simp [List.getD, hy, byteV]
theorem cut_is {w : World} {a : Option Addr} {n c : Nat} {S : List Nat} (hr : Reads w a n S) (hnc : n ≤ c) (k : Nat) (hk : k ≤ n) :
    ∃ a', (∀ W, (Instr.sliceAt 63 (.slice a n c) none (some (.int .i64 (k : Int))) none).run Try.prog W = .ok (.slice a' k c) W) ∧ Reads w a' k (S.take k) ∧ (S.take k ≠ [] → a' = a) := by
  have ht : Try.prog.underlying 63 = some (.slice (Try.prog.elem 63)) := by kernel_rfl
  have he : Try.prog.elem 63 = 5 := by kernel_rfl
  have hsz : ∀ W, (Go.sizeOf 5).run Try.prog W = .ok 1 W := fun W => by kernel_rfl
  refine ⟨if c = 0 then a else a.map (·.add (0 * 1)), fun W => ?_, ?_, ?_⟩
  · rw [run_sliceAt_slice _ _ _ _ _ _ ht, run_slice_h _ _ _ _ _ ht .i64 _ (by omega) (by omega), he, hsz]
    simp only [Result.andThen_ok, sliced, Int.toNat_natCast, Nat.sub_zero]
  all_goals
    by_cases hS : S.take k = []
  · have hk0 : k = 0 := by
      have := congrArg List.length hS
      rw [List.length_take, hr.1] at this
      simp at this
      omega
    rw [hS]
    exact ⟨by rw [hk0]; rfl, by intro x hx; simp at hx, .inl rfl⟩
  · have h0 : 0 < k := by
      rcases Nat.eq_zero_or_pos k with h | h
      · rw [h, List.take_zero] at hS; exact absurd rfl hS
      · exact h
    obtain ⟨b, off, rfl, hb, hcell⟩ := hr.cellP (j := 0) (by omega)
    have e : (if c = 0 then some (⟨b, off, none⟩ : Addr) else (some (⟨b, off, none⟩ : Addr)).map (·.add (0 * 1))) = some ⟨b, off, none⟩ := by
      rw [if_neg (by omega)]
      simp [Addr.add]
    rw [e]
    exact hr.take k hk
  · intro h; exact absurd hS h
  · intro _
    have h0 : 0 < k := by
      rcases Nat.eq_zero_or_pos k with h | h
      · rw [h, List.take_zero] at hS; exact absurd rfl hS
      · exact h
    obtain ⟨b, off, rfl, hb, hcell⟩ := hr.cellP (j := 0) (by omega)
    rw [if_neg (by omega)]
    simp [Addr.add]
/-- Pipes, and slices of bytes of one's own that share nothing. -/
structure Many (B : Nat) (w : World) (g gs : Nat) (fl : List PipeD) (vs : List (Value × List Nat)) : Prop where
  pp : IsPipes B w g gs fl
  own : ∀ (i : Nat) (v : Value) (l : List Nat), vs[i]? = some (v, l) → Owns B w v l
  ap : ∀ (i j : Nat) (v v' : Value) (l l' : List Nat), i ≠ j → vs[i]? = some (v, l) → vs[j]? = some (v', l') → ∀ k, v.ownBlock = some k → v'.ownBlock ≠ some k
theorem owns_block {B : Nat} {w : World} {v : Value} {l : List Nat} (h : Owns B w v l) {k : Nat} (hk : v.ownBlock = some k) : ∃ cur, w.heap[k]? = some (.cells cur 5 (0, 0)) := by
  obtain ⟨_, _, ⟨rfl, _⟩ | ⟨g, cap, cur, rfl, _, hg, _⟩⟩ := h
  · cases hk
  · obtain rfl : g = k := Option.some.inj hk
    exact ⟨_, hg⟩
theorem Many.below {B : Nat} {w w' : World} {g gs : Nat} {fl : List PipeD} {vs : List (Value × List Nat)} (h : Many B w g gs fl vs) (b : Below w.heap.size w w') : Many B w' g gs fl vs :=
  ⟨h.pp.below b, fun i v l e => (h.own i v l e).below b, h.ap⟩
theorem Many.pipes {B : Nat} {w w' : World} {g gs : Nat} {fl fl' : List PipeD} {vs : List (Value × List Nat)} (h : Many B w g gs fl vs) (hg : w.grownBy w' (some gs)) (hp : IsPipes B w' g gs fl') : Many B w' g gs fl' vs := by
  refine ⟨hp, fun i v l e => (h.own i v l e).keptP hg ?_, h.ap⟩
  right
  intro e9
  obtain ⟨cur, hc⟩ := owns_block (h.own i v l e) e9
  exact h.pp.2.1.apartP hc (by decide) rfl
theorem Many.push {B : Nat} {w w' : World} {g gs : Nat} {fl : List PipeD} {vs : List (Value × List Nat)} (h : Many B w g gs fl vs) {i : Nat} {v v' : Value} {l l' : List Nat} (hi : vs[i]? = some (v, l)) (ho : Owns B w' v' l') (hg : w.grownBy w' v.ownBlock) (hl : v'.ownBlock = v.ownBlock ∨ v'.ownBlock = some w.heap.size) : Many B w' g gs fl (vs.set i (v', l')) := by
  have hil := (List.getElem?_eq_some_iff.1 hi).1
  have key : ∀ (j : Nat) (u : Value) (m : List Nat), i ≠ j → (vs.set i (v', l'))[j]? = some (u, m) → vs[j]? = some (u, m) := fun j u m hij e => by rwa [List.getElem?_set_ne hij] at e
  have self : ∀ (u : Value) (m : List Nat), (vs.set i (v', l'))[i]? = some (u, m) → u = v' ∧ m = l' := fun u m e => by
    rw [List.getElem?_set_self hil] at e
    cases e
    exact ⟨rfl, rfl⟩
  have newl : ∀ (j : Nat) (u : Value) (m : List Nat), i ≠ j → vs[j]? = some (u, m) → ∀ k, v'.ownBlock = some k → u.ownBlock ≠ some k := fun j u m hij e k hk e9 => by
    rcases hl with hl | hl
    · exact h.ap i j v u l m hij hi e k (by rw [← hl]; exact hk) e9
    · rw [hl] at hk
      cases hk
      have := ((h.own j u m e).2.lt _ e9).2
      omega
  refine ⟨?_, fun j u m e => ?_, fun j j' u u' m m' hne e e' k hk e9 => ?_⟩
  · refine h.pp.keptP hg (fun e => ?_) (fun e => ?_)
    · obtain ⟨cur, hc⟩ := owns_block (h.own i v l hi) e
      have := h.pp.1
      rw [hc] at this
      simp at this
    · obtain ⟨cur, hc⟩ := owns_block (h.own i v l hi) e
      exact h.pp.2.1.apartP hc (by decide) rfl
  · by_cases hij : i = j
    · subst hij
      obtain ⟨rfl, rfl⟩ := self u m e
      exact ho
    · have e2 := key j u m hij e
      refine (h.own j u m e2).keptP hg ?_
      rcases hv : v.ownBlock with _ | k
      · rcases hu : u.ownBlock with _ | k'
        · exact .inl rfl
        · right; intro e9; cases e9
      · right
        intro e9
        exact h.ap i j v u l m hij hi e2 k hv e9
  · by_cases hij : i = j
    · subst hij
      obtain ⟨rfl, rfl⟩ := self u m e
      exact newl j' u' m' hne (key j' u' m' hne e') k hk e9
    · have e2 := key j u m hij e
      by_cases hij' : i = j'
      · subst hij'
        obtain ⟨rfl, rfl⟩ := self u' m' e'
        exact newl j u m hij e2 k e9 hk
      · exact h.ap j j' u u' m m' hne e2 (key j' u' m' hij' e') k hk e9
/-- What a slice of one's own looks like. -/
theorem Owns.shape {B : Nat} {w : World} {v : Value} {l : List Nat} (h : Owns B w v l) : ∃ a cap, v = .slice a l.length cap := by
  obtain ⟨a, cap, e, _⟩ := h.reads
  exact ⟨a, cap, e⟩
end Go.Proofs.Ytebkkbmplndcpaa
