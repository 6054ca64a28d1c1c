/- Calls read of texts: plain facts. -/
import Derived.Test.YtebgejoemlgggaaDoorTake23
namespace Go.Proofs.YtebgejoemlgggaaDoor
open Go.RowKit Go.Sort
set_option linter.unusedVariables false
set_option linter.unusedSimpArgs false
set_option maxRecDepth 100000

/-- A text is just this call's. -/
structure Said (s : Bx) (op a b : Int) (S T d : Bx) : Prop where
  one : 1 ≤ op
  top : op ≤ 29
  ha : I64 a
  hb : I64 b
  text : textL op a b S T d = s
/-- A text with a call's own things alone. -/
structure PlainB (has : Bx) (a b : Int) (S T d : Bx) : Prop where
  isA : (65 : UInt8) ∉ has → a = 0
  isB : (66 : UInt8) ∉ has → b = 0
  isS : (83 : UInt8) ∉ has → S = []
  isT : (84 : UInt8) ∉ has → T = []
  isD : (68 : UInt8) ∉ has → d = []
theorem names_ok : ∀ i, i < 30 → 1 ≤ i → (shapesL[i]?.getD ([], [])).1 ≠ [] ∧ (32 : UInt8) ∉ (shapesL[i]?.getD ([], [])).1 := by decide
theorem names_apart : ∀ i, i < 30 → ∀ j, j < 30 → (shapesL[i]?.getD ([], [])).1 = (shapesL[j]?.getD ([], [])).1 → i = j := by decide
theorem shapeN_at {op : Int} (h1 : 0 ≤ op) (h2 : op < 30) : shapeN op = shapesL[op.toNat]?.getD ([], []) := by unfold shapeN; rw [if_pos ⟨h1, h2⟩]
theorem wordL_blank (l : Nat) (a b : Int) (S T d : Bx) : (32 : UInt8) ∉ wordL l a b S T d := by
  unfold wordL
  (repeat' split)
  · exact itoa_blank a
  · exact itoa_blank b
  · exact escL_blank S
  · exact escL_blank T
  · exact escL_blank d
/-- What such a text is cut into. -/
theorem said_words {s : Bx} {op a b : Int} {S T d : Bx} (h : Said s op a b S T d) (k : Nat) (hk : k = min 4 (s.length + 1) - 1) : wordsK k s = (shapeN op).1 :: (shapeN op).2.map fun l => wordL l.toNat a b S T d := by
  have h1 := h.one
  have h2 := h.top
  have hf := shapeN_facts op
  have hlen : ((shapeN op).2.map fun l => wordL l.toNat a b S T d).length ≤ k := by
    have := join_size_le (shapeN op).1 ((shapeN op).2.map fun l => wordL l.toNat a b S T d)
    have e : (Lib.join ((shapeN op).1 :: (shapeN op).2.map fun l => wordL l.toNat a b S T d) [32]).length = s.length := congrArg List.length h.text
    rw [e] at this
    rw [List.length_map] at this ⊢
    omega
  have := wordsK_words ((shapeN op).2.map fun l => wordL l.toNat a b S T d) (shapeN op).1 k (by
    intro y hy
    rcases List.mem_cons.1 hy with rfl | hy
    · rw [shapeN_at (by omega) (by omega)]; exact (names_ok _ (by omega) (by omega)).2
    · obtain ⟨l, _, rfl⟩ := List.mem_map.1 hy
      exact wordL_blank _ _ _ _ _ _) hlen
  have e : Lib.join ((shapeN op).1 :: (shapeN op).2.map fun l => wordL l.toNat a b S T d) [32] = s := h.text
  rw [e] at this
  exact this
/-- The name says which call it is. -/
theorem said_op {s x0 : Bx} {rest : List Bx} {op a b r : Int} {S T d : Bx} (h : Said s op a b S T d) {k : Nat} (hk : k = min 4 (s.length + 1) - 1) (hw : wordsK k s = x0 :: rest) (hr : IdxIs x0 r) : r = op := by
  have h1 := h.one
  have h2 := h.top
  have hs := said_words h k hk
  rw [hw] at hs
  have hx : x0 = (shapeN op).1 := (List.cons.inj hs).1
  rw [shapeN_at (by omega) (by omega)] at hx
  have hq : shapesL[op.toNat]? = some (shapesL[op.toNat]?.getD ([], [])) := by
    rw [List.getElem?_eq_getElem (by rw [shapesL_len]; omega)]; rfl
  rcases hr with ⟨i, p, rfl, hp, hpx, _⟩ | ⟨rfl, hno⟩
  · have hi : i < 30 := by have := (List.getElem?_eq_some_iff.1 hp).1; rw [shapesL_len] at this; exact this
    have := names_apart i hi op.toNat (by omega) (by rw [hp]; exact hpx.trans hx)
    omega
  · exact absurd hx.symm (hno op.toNat _ hq)
/-- What has been taken so far. -/
structure TakenJ (s : Bx) (op : Int) (has : Bx) (a b : Int) (S T d : Bx) : Prop where
  isA : ∀ a' b' S' T' d', Said s op a' b' S' T' d' → (65 : UInt8) ∈ has → a = a'
  isB : ∀ a' b' S' T' d', Said s op a' b' S' T' d' → (66 : UInt8) ∈ has → b = b'
  isS : ∀ a' b' S' T' d', Said s op a' b' S' T' d' → (83 : UInt8) ∈ has → S = S'
  isT : ∀ a' b' S' T' d', Said s op a' b' S' T' d' → (84 : UInt8) ∈ has → T = T'
  isD : ∀ a' b' S' T' d', Said s op a' b' S' T' d' → (68 : UInt8) ∈ has → d = d'
  pl : PlainB has a b S T d
theorem taken_none (s : Bx) (op : Int) : TakenJ s op [] 0 0 [] [] [] :=
  ⟨fun _ _ _ _ _ _ h => absurd h (by simp), fun _ _ _ _ _ _ h => absurd h (by simp), fun _ _ _ _ _ _ h => absurd h (by simp), fun _ _ _ _ _ _ h => absurd h (by simp), fun _ _ _ _ _ _ h => absurd h (by simp), ⟨fun _ => rfl, fun _ => rfl, fun _ => rfl, fun _ => rfl, fun _ => rfl⟩⟩
theorem wordL_is (a b : Int) (S T d : Bx) : wordL 65 a b S T d = Lib.itoa a ∧ wordL 66 a b S T d = Lib.itoa b ∧ wordL 83 a b S T d = escL S ∧ wordL 84 a b S T d = escL T ∧ wordL 68 a b S T d = escL d := ⟨rfl, rfl, rfl, rfl, rfl⟩
theorem unE_esc (S : Bx) : (unE (escL S)).getD [] = S := by rw [unE_iff.2 (rfl : escL S = escL S)]; rfl
theorem taken_step {s : Bx} {op : Int} {has : Bx} {a b : Int} {S T d : Bx} (h : TakenJ s op has a b S T d) (c : UInt8) (hc : c.toNat ∈ [65, 66, 83, 84, 68]) (x : Bx) (hx : ∀ a' b' S' T' d', Said s op a' b' S' T' d' → x = wordL c.toNat a' b' S' T' d')
    {a1 b1 : Int} {S1 T1 d1 : Bx} (ht : Took c.toNat x a b S T d a1 b1 S1 T1 d1) : TakenJ s op (has ++ [c]) a1 b1 S1 T1 d1 := by
  have mem : ∀ y : UInt8, y ∈ has ++ [c] ↔ y ∈ has ∨ y = c := fun y => by simp
  simp only [List.mem_cons, List.not_mem_nil, or_false] at hc
  have key : ∀ n : Nat, n < 256 → c.toNat = n → c = UInt8.ofNat n := fun n hn e => UInt8.toNat_inj.1 (by rw [e, UInt8.toNat_ofNat', Nat.mod_eq_of_lt hn])
  rcases hc with hc | hc | hc | hc | hc
  · obtain rfl := key 65 (by decide) hc
    obtain ⟨e1, e2, e3, e4, e5⟩ := ht.isA rfl
    subst e1 e2 e3 e4
    refine ⟨fun a' b' S' T' d' hs _ => e5 a' hs.ha ((hx a' b' S' T' d' hs).trans (wordL_is a' b' S' T' d').1), fun a' b' S' T' d' hs hm => ?_, fun a' b' S' T' d' hs hm => ?_, fun a' b' S' T' d' hs hm => ?_, fun a' b' S' T' d' hs hm => ?_, ⟨fun hm => absurd ((mem _).2 (.inr rfl)) hm, fun hm => h.pl.isB fun k => hm ((mem _).2 (.inl k)), fun hm => h.pl.isS fun k => hm ((mem _).2 (.inl k)), fun hm => h.pl.isT fun k => hm ((mem _).2 (.inl k)), fun hm => h.pl.isD fun k => hm ((mem _).2 (.inl k))⟩⟩
    · exact h.isB a' b' S' T' d' hs (((mem _).1 hm).resolve_right (by decide))
    · exact h.isS a' b' S' T' d' hs (((mem _).1 hm).resolve_right (by decide))
    · exact h.isT a' b' S' T' d' hs (((mem _).1 hm).resolve_right (by decide))
    · exact h.isD a' b' S' T' d' hs (((mem _).1 hm).resolve_right (by decide))
  · obtain rfl := key 66 (by decide) hc
    obtain ⟨e1, e2, e3, e4, e5⟩ := ht.isB rfl
    subst e1 e2 e3 e4
    refine ⟨fun a' b' S' T' d' hs hm => ?_, fun a' b' S' T' d' hs _ => e5 b' hs.hb ((hx a' b' S' T' d' hs).trans (wordL_is a' b' S' T' d').2.1), fun a' b' S' T' d' hs hm => ?_, fun a' b' S' T' d' hs hm => ?_, fun a' b' S' T' d' hs hm => ?_, ⟨fun hm => h.pl.isA fun k => hm ((mem _).2 (.inl k)), fun hm => absurd ((mem _).2 (.inr rfl)) hm, fun hm => h.pl.isS fun k => hm ((mem _).2 (.inl k)), fun hm => h.pl.isT fun k => hm ((mem _).2 (.inl k)), fun hm => h.pl.isD fun k => hm ((mem _).2 (.inl k))⟩⟩
    · exact h.isA a' b' S' T' d' hs (((mem _).1 hm).resolve_right (by decide))
    · exact h.isS a' b' S' T' d' hs (((mem _).1 hm).resolve_right (by decide))
    · exact h.isT a' b' S' T' d' hs (((mem _).1 hm).resolve_right (by decide))
    · exact h.isD a' b' S' T' d' hs (((mem _).1 hm).resolve_right (by decide))
  · obtain rfl := key 83 (by decide) hc
    obtain ⟨e1, e2, e3, e4, e5⟩ := ht.isS rfl
    subst e1 e2 e3 e4
    refine ⟨fun a' b' S' T' d' hs hm => ?_, fun a' b' S' T' d' hs hm => ?_, fun a' b' S' T' d' hs _ => by rw [e5, (hx a' b' S' T' d' hs).trans (wordL_is a' b' S' T' d').2.2.1, unE_esc], fun a' b' S' T' d' hs hm => ?_, fun a' b' S' T' d' hs hm => ?_, ⟨fun hm => h.pl.isA fun k => hm ((mem _).2 (.inl k)), fun hm => h.pl.isB fun k => hm ((mem _).2 (.inl k)), fun hm => absurd ((mem _).2 (.inr rfl)) hm, fun hm => h.pl.isT fun k => hm ((mem _).2 (.inl k)), fun hm => h.pl.isD fun k => hm ((mem _).2 (.inl k))⟩⟩
    · exact h.isA a' b' S' T' d' hs (((mem _).1 hm).resolve_right (by decide))
    · exact h.isB a' b' S' T' d' hs (((mem _).1 hm).resolve_right (by decide))
    · exact h.isT a' b' S' T' d' hs (((mem _).1 hm).resolve_right (by decide))
    · exact h.isD a' b' S' T' d' hs (((mem _).1 hm).resolve_right (by decide))
  · obtain rfl := key 84 (by decide) hc
    obtain ⟨e1, e2, e3, e4, e5⟩ := ht.isT rfl
    subst e1 e2 e3 e4
    refine ⟨fun a' b' S' T' d' hs hm => ?_, fun a' b' S' T' d' hs hm => ?_, fun a' b' S' T' d' hs hm => ?_, fun a' b' S' T' d' hs _ => by rw [e5, (hx a' b' S' T' d' hs).trans (wordL_is a' b' S' T' d').2.2.2.1, unE_esc], fun a' b' S' T' d' hs hm => ?_, ⟨fun hm => h.pl.isA fun k => hm ((mem _).2 (.inl k)), fun hm => h.pl.isB fun k => hm ((mem _).2 (.inl k)), fun hm => h.pl.isS fun k => hm ((mem _).2 (.inl k)), fun hm => absurd ((mem _).2 (.inr rfl)) hm, fun hm => h.pl.isD fun k => hm ((mem _).2 (.inl k))⟩⟩
    · exact h.isA a' b' S' T' d' hs (((mem _).1 hm).resolve_right (by decide))
    · exact h.isB a' b' S' T' d' hs (((mem _).1 hm).resolve_right (by decide))
    · exact h.isS a' b' S' T' d' hs (((mem _).1 hm).resolve_right (by decide))
    · exact h.isD a' b' S' T' d' hs (((mem _).1 hm).resolve_right (by decide))
  · obtain rfl := key 68 (by decide) hc
    obtain ⟨e1, e2, e3, e4, e5⟩ := ht.isD rfl
    subst e1 e2 e3 e4
    refine ⟨fun a' b' S' T' d' hs hm => ?_, fun a' b' S' T' d' hs hm => ?_, fun a' b' S' T' d' hs hm => ?_, fun a' b' S' T' d' hs hm => ?_, fun a' b' S' T' d' hs _ => by rw [e5, (hx a' b' S' T' d' hs).trans (wordL_is a' b' S' T' d').2.2.2.2, unE_esc], ⟨fun hm => h.pl.isA fun k => hm ((mem _).2 (.inl k)), fun hm => h.pl.isB fun k => hm ((mem _).2 (.inl k)), fun hm => h.pl.isS fun k => hm ((mem _).2 (.inl k)), fun hm => h.pl.isT fun k => hm ((mem _).2 (.inl k)), fun hm => absurd ((mem _).2 (.inr rfl)) hm⟩⟩
    · exact h.isA a' b' S' T' d' hs (((mem _).1 hm).resolve_right (by decide))
    · exact h.isB a' b' S' T' d' hs (((mem _).1 hm).resolve_right (by decide))
    · exact h.isS a' b' S' T' d' hs (((mem _).1 hm).resolve_right (by decide))
    · exact h.isT a' b' S' T' d' hs (((mem _).1 hm).resolve_right (by decide))
/-- All taken: the text is said just if it is the one that is made again. -/
theorem taken_all {s : Bx} {op : Int} {a b : Int} {S T d : Bx} (h : TakenJ s op (shapeN op).2 a b S T d) {a' b' : Int} {S' T' d' : Bx} (hs : Said s op a' b' S' T' d') : textL op a b S T d = s := by
  rw [← hs.text]
  unfold textL
  congr 2
  refine List.map_congr_left fun l hl => ?_
  have hl2 := (shapeN_facts op).2.1 l hl
  simp only [List.mem_cons, List.not_mem_nil, or_false] at hl2
  have key : ∀ n : Nat, n < 256 → l.toNat = n → l = UInt8.ofNat n := fun n hn e => UInt8.toNat_inj.1 (by rw [e, UInt8.toNat_ofNat', Nat.mod_eq_of_lt hn])
  rcases hl2 with hc | hc | hc | hc | hc
  · obtain rfl := key 65 (by decide) hc
    rw [h.isA _ _ _ _ _ hs hl]; rfl
  · obtain rfl := key 66 (by decide) hc
    rw [h.isB _ _ _ _ _ hs hl]; rfl
  · obtain rfl := key 83 (by decide) hc
    rw [h.isS _ _ _ _ _ hs hl]; rfl
  · obtain rfl := key 84 (by decide) hc
    rw [h.isT _ _ _ _ _ hs hl]; rfl
  · obtain rfl := key 68 (by decide) hc
    rw [h.isD _ _ _ _ _ hs hl]; rfl
end Go.Proofs.YtebgejoemlgggaaDoor
