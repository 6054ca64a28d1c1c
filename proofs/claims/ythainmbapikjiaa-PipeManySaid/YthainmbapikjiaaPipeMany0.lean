/- Three pipes, and what went into each and came out of it, in two boxes. -/
import Derived.Test.YthainmbapikjiaaPipeOrders1
namespace Go.Proofs.Ythainmbapikjiaa
open Go.RowKit Go.Sort
set_option linter.unusedVariables false
set_option linter.unusedSimpArgs false
set_option maxRecDepth 100000

theorem grown_setCellP (w : World) (a : Addr) (v : Value) : w.grownBy (w.setCell a v) (some a.block) := ⟨rfl, rfl, rfl, by simp [World.setCell], fun k hk hne => Below.heap_setCell _ _ _ _ (fun e => hne (by rw [e]))⟩
theorem Many.box {B : Nat} {w w' : World} {g gs b : Nat} {fl : List PipeD} {vs : List (Value × List Nat)} {cs : Array Value} {T : TypeId} (h : Many B w g gs fl vs) (hg : w.grownBy w' (some b)) (hb : w.heap[b]? = some (.cells cs T (0, 0))) (h1 : 5 ≠ T) (h2 : 135 ≠ T) (h3 : 141 ≠ T) : Many B w' g gs fl vs := by
  refine ⟨h.pp.keptP hg (fun e => ?_) (fun e => ?_), fun i v l e => (h.own i v l e).keptP hg (.inr fun e9 => ?_), h.ap⟩
  · obtain rfl := Option.some.inj e
    have := h.pp.1
    rw [hb] at this
    simp at this
    exact h2 this.2.symm
  · obtain rfl := Option.some.inj e
    exact h.pp.2.1.apartP hb h3 rfl
  · obtain ⟨cur, hc⟩ := owns_block (h.own i v l e) e9
    rw [hb] at hc
    simp at hc
    exact h1 hc.2.symm
theorem step_append_at {w : World} {ops : Array Oper} {o : Oper} {a : Act} {K : Act → World → Prop} {Q : Exit → Act → World → Prop} {E : Prop} (hgd : Region.wanted o (yielded ops a.tmps) = true) (s x : Operand)
    (ho : o.op = .call { callee := .builtin .append, args := #[s, x], argTypes := #[33, 33] })
    (B : Nat) (v : Value) (l : List Nat) (hs : a.eval s = v) (hown : Owns B w v l) (sa : Option Addr) (m c : Nat) (hx : a.eval x = .slice sa m c) (news : List Nat) (hr : Reads w sa m news)
    (hb : l.length + m ≤ 140737488355328) (hB : B ≤ w.heap.size)
    (h : ∀ v' w', Owns B w' v' (l ++ news) → w.grownBy w' v.ownBlock → (v'.ownBlock = v.ownBlock ∨ v'.ownBlock = some w.heap.size) → K (a.put o.dst v') w') :
    if Region.wanted o (yielded ops a.tmps) = true then Oper.wp Try.prog o a w K Q else E := by
  rw [if_pos hgd]
  obtain ⟨hl, hown⟩ := hown
  obtain ⟨hlen, hbs, hr⟩ := hr
  obtain ⟨i0, hi, hz0, hz1, hz2⟩ := info_parts info_u8
  have close : ∀ v' w', w'.ownsRow B 5 1 v' (l.length + m) (l.map byteV ++ news.map byteV) → Owns B w' v' (l ++ news) := fun v' w' h' => by
    refine ⟨hl.append hbs, ?_⟩
    rw [List.length_append, hlen, List.map_append]
    exact h'
  cases sa with
  | none =>
    have hn : news = [] := by
      rcases hr with rfl | ⟨b, off, he, _⟩
      · rfl
      · cases he
    subst hn
    obtain rfl : m = 0 := by simpa using hlen.symm
    have hrun := run_append_nothing (P := Try.prog) (w := w) B 33 o.type 5 i0 1 Try.underlying33 hi v _ _ hown c
    unfold Oper.wp
    simp [execOp, ho, resolve, invoke, builtin, hs, hx, hrun, Result.andThen]
    exact h _ _ (close _ _ (by simpa using hown)) ⟨rfl, rfl, rfl, Nat.le_refl _, fun _ _ _ => rfl⟩ (.inl rfl)
  | some ad =>
    obtain ⟨v', w', hrn, h2, h3, h4, h5⟩ := run_append_own_at (P := Try.prog) w B 33 o.type 5 i0 (.int .u8 0) 1 1 Try.underlying33 hi hz0 hz1 hz2 rfl (by decide) v l.length (l.map byteV) hown ad m c (news.map byteV) (by simp [hlen]) (by
      intro j u hu
      rcases hr with rfl | ⟨b, off, he, _, hc⟩
      · simp at hu
      · cases he
        simp only [List.getElem?_map, Option.map_eq_some_iff] at hu
        obtain ⟨y, hy, rfl⟩ := hu
        have hj : j < m := by rw [← hlen]; exact (List.getElem?_eq_some_iff.1 hy).1
        have hadd : (⟨b, off, none⟩ : Addr).add j = ⟨b, off + j, none⟩ := by unfold Addr.add; split <;> simp_all
        rw [hadd, hc j hj]
        simp [List.getD, hy, byteV]) (byteV_oneCell _) (by unfold maxLen; omega) (by omega) hB
    unfold Oper.wp execOp
    simp only [ho, resolve, invoke, builtin, Sem.run_bind, Sem.run_pure, Result.andThen_ok, List.map_toArray, List.map_cons, List.map_nil, hs, hx, hrn]
    exact h v' w' (close _ _ h2) h3 h5
structure Trio (B : Nat) (w : World) (g gs g4 g5 : Nat) (fl : List PipeD) (ins outs : List (Value × List Nat)) : Prop where
  mm : Many B w g gs fl (ins ++ outs)
  lf : fl.length = 3
  li : ins.length = 3
  lo : outs.length = 3
  b4 : w.heap[g4]? = some (.cells (ins.map (·.1)).toArray 59 (0, 0))
  b5 : w.heap[g5]? = some (.cells (outs.map (·.1)).toArray 59 (0, 0))
  ne : g4 ≠ g5
theorem Trio.below {B : Nat} {w w' : World} {g gs g4 g5 : Nat} {fl : List PipeD} {ins outs : List (Value × List Nat)} (h : Trio B w g gs g4 g5 fl ins outs) (b : Below w.heap.size w w') : Trio B w' g gs g4 g5 fl ins outs :=
  ⟨h.mm.below b, h.lf, h.li, h.lo, (b.block g4 (Array.getElem?_eq_some_iff.1 h.b4).1).trans h.b4, (b.block g5 (Array.getElem?_eq_some_iff.1 h.b5).1).trans h.b5, h.ne⟩
theorem Trio.pipes {B : Nat} {w w' : World} {g gs g4 g5 : Nat} {fl fl' : List PipeD} {ins outs : List (Value × List Nat)} (h : Trio B w g gs g4 g5 fl ins outs) (hg : w.grownBy w' (some gs)) (hp : IsPipes B w' g gs fl') (hl : fl'.length = fl.length) : Trio B w' g gs g4 g5 fl' ins outs :=
  ⟨h.mm.pipes hg hp, hl.trans h.lf, h.li, h.lo,
    (hg.block g4 (Array.getElem?_eq_some_iff.1 h.b4).1 (fun e => by obtain rfl := Option.some.inj e; exact h.mm.pp.2.1.apartP h.b4 (by decide) rfl)).trans h.b4,
    (hg.block g5 (Array.getElem?_eq_some_iff.1 h.b5).1 (fun e => by obtain rfl := Option.some.inj e; exact h.mm.pp.2.1.apartP h.b5 (by decide) rfl)).trans h.b5, h.ne⟩
theorem owns_ne {B : Nat} {w : World} {v : Value} {l : List Nat} (h : Owns B w v l) {b : Nat} {cs : Array Value} (hb : w.heap[b]? = some (.cells cs 59 (0, 0))) : some b ≠ v.ownBlock := fun e => by
  obtain ⟨cur, hc⟩ := owns_block h e.symm
  rw [hb] at hc
  simp at hc
theorem map_set_arr {ins : List (Value × List Nat)} {K : Nat} {v' : Value} {l' : List Nat} : (ins.map (·.1)).toArray.setIfInBounds K v' = ((ins.set K (v', l')).map (·.1)).toArray := by
  rw [List.setIfInBounds_toArray, List.map_set]
theorem Trio.pushIn {B : Nat} {w w' : World} {g gs g4 g5 : Nat} {fl : List PipeD} {ins outs : List (Value × List Nat)} (h : Trio B w g gs g4 g5 fl ins outs) {K : Nat} {v v' : Value} {l l' : List Nat} (hi : ins[K]? = some (v, l)) (ho : Owns B w' v' l') (hg : w.grownBy w' v.ownBlock) (hl : v'.ownBlock = v.ownBlock ∨ v'.ownBlock = some w.heap.size) :
    w'.heap[g4]? = some (.cells (ins.map (·.1)).toArray 59 (0, 0)) ∧ Trio B (w'.setCell ⟨g4, K, none⟩ v') g gs g4 g5 fl (ins.set K (v', l')) outs ∧ w'.grownBy (w'.setCell ⟨g4, K, none⟩ v') (some g4) := by
  have hK := (List.getElem?_eq_some_iff.1 hi).1
  have hi2 : (ins ++ outs)[K]? = some (v, l) := by rw [List.getElem?_append_left hK]; exact hi
  have hown := h.mm.own K v l hi2
  have n4 := (hg.block g4 (Array.getElem?_eq_some_iff.1 h.b4).1 (owns_ne hown h.b4)).trans h.b4
  have n5 := (hg.block g5 (Array.getElem?_eq_some_iff.1 h.b5).1 (owns_ne hown h.b5)).trans h.b5
  have hp := h.mm.push hi2 ho hg hl
  rw [List.set_append_left _ _ hK] at hp
  have hgb : w'.grownBy (w'.setCell ⟨g4, K, none⟩ v') (some g4) := grown_setCellP w' ⟨g4, K, none⟩ v'
  refine ⟨n4, ⟨hp.box hgb n4 (by decide) (by decide) (by decide), h.lf, by rw [List.length_set]; exact h.li, h.lo, ?_, (hgb.block g5 (Array.getElem?_eq_some_iff.1 n5).1 (fun e => h.ne (Option.some.inj e).symm)).trans n5, h.ne⟩, hgb⟩
  rw [heap_setCell_same w' g4 K _ _ v' n4, map_set_arr]
theorem Trio.pushOut {B : Nat} {w w' : World} {g gs g4 g5 : Nat} {fl : List PipeD} {ins outs : List (Value × List Nat)} (h : Trio B w g gs g4 g5 fl ins outs) {K : Nat} {v v' : Value} {l l' : List Nat} (hi : outs[K]? = some (v, l)) (ho : Owns B w' v' l') (hg : w.grownBy w' v.ownBlock) (hl : v'.ownBlock = v.ownBlock ∨ v'.ownBlock = some w.heap.size) :
    w'.heap[g5]? = some (.cells (outs.map (·.1)).toArray 59 (0, 0)) ∧ Trio B (w'.setCell ⟨g5, K, none⟩ v') g gs g4 g5 fl ins (outs.set K (v', l')) ∧ w'.grownBy (w'.setCell ⟨g5, K, none⟩ v') (some g5) := by
  have hK := (List.getElem?_eq_some_iff.1 hi).1
  have hi2 : (ins ++ outs)[3 + K]? = some (v, l) := by rw [List.getElem?_append_right (by rw [h.li]; omega), h.li]; rw [show 3 + K - 3 = K by omega]; exact hi
  have hown := h.mm.own (3 + K) v l hi2
  have n4 := (hg.block g4 (Array.getElem?_eq_some_iff.1 h.b4).1 (owns_ne hown h.b4)).trans h.b4
  have n5 := (hg.block g5 (Array.getElem?_eq_some_iff.1 h.b5).1 (owns_ne hown h.b5)).trans h.b5
  have hp := h.mm.push hi2 ho hg hl
  rw [List.set_append_right _ _ (by rw [h.li]; omega), h.li, show 3 + K - 3 = K by omega] at hp
  have hgb : w'.grownBy (w'.setCell ⟨g5, K, none⟩ v') (some g5) := grown_setCellP w' ⟨g5, K, none⟩ v'
  refine ⟨n5, ⟨hp.box hgb n5 (by decide) (by decide) (by decide), h.lf, h.li, by rw [List.length_set]; exact h.lo, (hgb.block g4 (Array.getElem?_eq_some_iff.1 n4).1 (fun e => h.ne (Option.some.inj e))).trans n4, ?_, h.ne⟩, hgb⟩
  rw [heap_setCell_same w' g5 K _ _ v' n5, map_set_arr]
/-- What is read of each pipe is what was written to it. -/
def Eqs (fl : List PipeD) (ins outs : List (Value × List Nat)) (n : Nat) : Prop := ∀ (K : Nat) (s : PipeD) (v u : Value) (l m : List Nat), fl[K]? = some s → ins[K]? = some (v, l) → outs[K]? = some (u, m) → l = m ++ content s ∧ s.readers = 1 ∧ s.writers = 1 ∧ l.length ≤ n
theorem Eqs.setIn {fl : List PipeD} {ins outs : List (Value × List Nat)} {n n' K : Nat} {s s' : PipeD} {v v' u : Value} {l l' m : List Nat} (h : Eqs fl ins outs n) (hf : fl[K]? = some s) (hi : ins[K]? = some (v, l)) (ho : outs[K]? = some (u, m)) (he : l' = m ++ content s') (h1 : s'.readers = 1) (h2 : s'.writers = 1) (hn : l'.length ≤ n') (hnn : n ≤ n') : Eqs (fl.set K s') (ins.set K (v', l')) outs n' := by
  intro J t a b x y e1 e2 e3
  by_cases hJ : K = J
  · subst hJ
    rw [List.getElem?_set_self (List.getElem?_eq_some_iff.1 hf).1] at e1
    rw [List.getElem?_set_self (List.getElem?_eq_some_iff.1 hi).1] at e2
    rw [ho] at e3
    cases e1; cases e2; cases e3
    exact ⟨he, h1, h2, hn⟩
  · rw [List.getElem?_set_ne hJ] at e1 e2
    obtain ⟨q1, q2, q3, q4⟩ := h J t a b x y e1 e2 e3
    exact ⟨q1, q2, q3, Nat.le_trans q4 hnn⟩
theorem Eqs.setOut {fl : List PipeD} {ins outs : List (Value × List Nat)} {n n' K : Nat} {s s' : PipeD} {v u u' : Value} {l m m' : List Nat} (h : Eqs fl ins outs n) (hf : fl[K]? = some s) (hi : ins[K]? = some (v, l)) (ho : outs[K]? = some (u, m)) (he : l = m' ++ content s') (h1 : s'.readers = 1) (h2 : s'.writers = 1) (hnn : n ≤ n') : Eqs (fl.set K s') ins (outs.set K (u', m')) n' := by
  intro J t a b x y e1 e2 e3
  by_cases hJ : K = J
  · subst hJ
    rw [List.getElem?_set_self (List.getElem?_eq_some_iff.1 hf).1] at e1
    rw [List.getElem?_set_self (List.getElem?_eq_some_iff.1 ho).1] at e3
    rw [hi] at e2
    cases e1; cases e2; cases e3
    exact ⟨he, h1, h2, Nat.le_trans (h K s v u l m hf hi ho).2.2.2 hnn⟩
  · rw [List.getElem?_set_ne hJ] at e1 e3
    obtain ⟨q1, q2, q3, q4⟩ := h J t a b x y e1 e2 e3
    exact ⟨q1, q2, q3, Nat.le_trans q4 hnn⟩
/-- The lists that the first loop makes. -/
def mk3 : Nat → List PipeD
  | 0 => [zeroP, zeroP, zeroP]
  | 1 => [newP, zeroP, zeroP]
  | 2 => [newP, newP, zeroP]
  | _ => [newP, newP, newP]
theorem mk3_make {B : Nat} {w : World} {g gs k : Nat} (hk : k < 3) (h : IsPipes B w g gs (mk3 k)) : Calls Try.prog 18 #[.pointer (some ⟨g, 0, none⟩)] w (PipesPost B w g gs (mk3 (k + 1)) (.tuple #[.int .i64 ((k : Int) + 1), .int .i64 0])) := by
  obtain rfl | rfl | rfl : k = 0 ∨ k = 1 ∨ k = 2 := by omega
  · exact pmake_yes h 0 zeroP (by rfl) rfl
  · exact pmake_yes h 1 zeroP (by rfl) rfl
  · exact pmake_yes h 2 zeroP (by rfl) rfl
theorem countP_three {fl : List PipeD} (hl : fl.length = 3) (h : ∀ s ∈ fl, thereB s = true) : countP fl = 3 := by
  match fl, hl with
  | [a, b, c], _ =>
    have h1 := h a (by simp)
    have h2 := h b (by simp)
    have h3 := h c (by simp)
    have e1 : placesL thereB [a, b, c] (0 + 1) = placesL thereB [a, b, c] 0 ++ [0] := placesL_yes rfl h1
    have e2 : placesL thereB [a, b, c] (1 + 1) = placesL thereB [a, b, c] 1 ++ [1] := placesL_yes rfl h2
    have e3 : placesL thereB [a, b, c] (2 + 1) = placesL thereB [a, b, c] 2 ++ [2] := placesL_yes rfl h3
    unfold countP
    show (placesL thereB [a, b, c] (2 + 1)).length = 3
    rw [e3, List.length_append]
    show (placesL thereB [a, b, c] (1 + 1)).length + 1 = 3
    rw [e2, List.length_append]
    show (placesL thereB [a, b, c] (0 + 1)).length + 1 + 1 = 3
    rw [e1]
    rfl
end Go.Proofs.Ythainmbapikjiaa
