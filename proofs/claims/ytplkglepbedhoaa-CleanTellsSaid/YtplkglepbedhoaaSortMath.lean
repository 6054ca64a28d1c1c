/- Sorting by halves, and by the best one again and again, as plain lists: both come to one list. -/
import Derived.Below
namespace Go.Proofs.Ytplkglepbedhoaa
set_option linter.unusedVariables false

/-- Two lists in their order as one. -/
def mergeL (lt : Nat → Nat → Bool) : List Nat → List Nat → List Nat
  | [], s => s
  | a :: f, s => s.takeWhile (fun b => lt b a) ++ a :: mergeL lt f (s.dropWhile (fun b => lt b a))
def sortL (lt : Nat → Nat → Bool) (l : List Nat) : List Nat :=
  if h : l.length < 2 then l else mergeL lt (sortL lt (l.take (l.length / 2))) (sortL lt (l.drop (l.length / 2)))
termination_by l.length
decreasing_by
  · rw [List.length_take]; omega
  · rw [List.length_drop]; omega
/-- The first one than which none is better. -/
def bestL (lt : Nat → Nat → Bool) (b : Nat) (l : List Nat) : Nat := l.foldl (fun b i => if lt i b then i else b) b
def pickL (lt : Nat → Nat → Bool) : List Nat → Option Nat
  | [] => none
  | a :: l => some (bestL lt a l)
def selL (lt : Nat → Nat → Bool) : Nat → List Nat → List Nat
  | 0, _ => []
  | n + 1, l => match pickL lt l with
    | none => []
    | some b => b :: selL lt n (l.erase b)

structure Weak (lt : Nat → Nat → Bool) (S : Nat → Prop) : Prop where
  irr : ∀ a, S a → lt a a = false
  tr : ∀ a b c, S a → S b → S c → lt a b = true → lt b c = true → lt a c = true
  neg : ∀ a b c, S a → S b → S c → lt a b = false → lt b c = false → lt a c = false
/-- a is ahead of b. -/
def Ahead (lt : Nat → Nat → Bool) (a b : Nat) : Prop := lt a b = true ∨ (lt b a = false ∧ a < b)
theorem Weak.asym {lt : Nat → Nat → Bool} {S : Nat → Prop} (W : Weak lt S) {a b : Nat} (ha : S a) (hb : S b) (h : lt a b = true) : lt b a = false := by
  cases h2 : lt b a with
  | false => rfl
  | true => have := W.tr a b a ha hb ha h h2; rw [W.irr a ha] at this; cases this
theorem Ahead.trans {lt : Nat → Nat → Bool} {S : Nat → Prop} (W : Weak lt S) {a b c : Nat} (ha : S a) (hb : S b) (hc : S c) (h : Ahead lt a b) (k : Ahead lt b c) : Ahead lt a c := by
  have key : ∀ x y z, S x → S y → S z → lt x y = true → lt z y = false → lt x z = true := fun x y z hx hy hz h1 h2 => by
    cases h3 : lt x z with
    | true => rfl
    | false => have := W.neg x z y hx hz hy h3 h2; rw [h1] at this; cases this
  rcases h with h | ⟨h, hl⟩
  · rcases k with k | ⟨k, kl⟩
    · exact .inl (W.tr a b c ha hb hc h k)
    · exact .inl (key a b c ha hb hc h k)
  · rcases k with k | ⟨k, kl⟩
    · cases h3 : lt a c with
      | true => exact .inl h3
      | false =>
        -- b < c, not b < a
        have := W.neg b a c hb ha hc h h3
        rw [k] at this; cases this
    · exact .inr ⟨W.neg c b a hc hb ha k h, by omega⟩
theorem Ahead.asym {lt : Nat → Nat → Bool} {S : Nat → Prop} (W : Weak lt S) {a b : Nat} (ha : S a) (hb : S b) (h : Ahead lt a b) (k : Ahead lt b a) : False := by
  rcases h with h | ⟨h, hl⟩
  · rcases k with k | ⟨k, kl⟩
    · rw [W.asym ha hb h] at k; cases k
    · rw [h] at k; cases k
  · rcases k with k | ⟨k, kl⟩
    · rw [h] at k; cases k
    · omega
theorem Ahead.of_not {lt : Nat → Nat → Bool} {a b : Nat} (h : lt b a = false) (hl : a < b) : Ahead lt a b := .inr ⟨h, hl⟩

theorem mergeL_perm (lt : Nat → Nat → Bool) : ∀ f s, (mergeL lt f s).Perm (f ++ s)
  | [], s => List.Perm.refl _
  | a :: f, s => by
    have ih := mergeL_perm lt f (s.dropWhile (fun b => lt b a))
    unfold mergeL
    have e : s = s.takeWhile (fun b => lt b a) ++ s.dropWhile (fun b => lt b a) := (List.takeWhile_append_dropWhile).symm
    generalize s.takeWhile (fun b => lt b a) = t at *
    generalize s.dropWhile (fun b => lt b a) = d at *
    subst e
    have h1 : (t ++ a :: mergeL lt f d).Perm (t ++ a :: (f ++ d)) := List.Perm.append_left t (List.Perm.cons a ih)
    refine h1.trans ?_
    have h2 : (t ++ a :: (f ++ d)).Perm (a :: (t ++ (f ++ d))) := List.perm_middle
    refine h2.trans ?_
    show (a :: (t ++ (f ++ d))).Perm (a :: (f ++ (t ++ d)))
    refine List.Perm.cons a ?_
    rw [← List.append_assoc, ← List.append_assoc]
    exact List.Perm.append_right d List.perm_append_comm
theorem sortL_perm (lt : Nat → Nat → Bool) (l : List Nat) : (sortL lt l).Perm l := by
  induction l using sortL.induct with
  | case1 l h => unfold sortL; rw [dif_pos h]
  | case2 l h ih1 ih2 =>
    unfold sortL
    rw [dif_neg h]
    refine (mergeL_perm lt _ _).trans ?_
    refine (List.Perm.append ih1 ih2).trans ?_
    rw [List.take_append_drop]
theorem mem_takeWhile_of {p : Nat → Bool} : ∀ {l : List Nat} {x : Nat}, x ∈ l.takeWhile p → p x = true ∧ x ∈ l
  | [], x, h => by cases h
  | y :: l, x, h => by
    rw [List.takeWhile_cons] at h
    split at h
    · rcases List.mem_cons.1 h with rfl | h
      · exact ⟨‹_›, by simp⟩
      · have := mem_takeWhile_of h; exact ⟨this.1, by simp [this.2]⟩
    · cases h
theorem head_dropWhile_of {p : Nat → Bool} : ∀ {l : List Nat} {x : Nat} {r : List Nat}, l.dropWhile p = x :: r → p x = false
  | [], x, r, h => by cases h
  | y :: l, x, r, h => by
    rw [List.dropWhile_cons] at h
    split at h
    · exact head_dropWhile_of h
    · have hx := (List.cons.inj h).1
      rw [← hx]
      simpa using ‹¬ p y = true›
theorem mem_dropWhile_of {p : Nat → Bool} {l : List Nat} {x : Nat} (h : x ∈ l.dropWhile p) : x ∈ l := by
  have e := List.takeWhile_append_dropWhile (p := p) (l := l)
  rw [← e]; exact List.mem_append.2 (.inr h)
theorem mergeL_sorted {lt : Nat → Nat → Bool} {S : Nat → Prop} (W : Weak lt S) : ∀ f s, (∀ a ∈ f, S a) → (∀ b ∈ s, S b) → (∀ a ∈ f, ∀ b ∈ s, a < b) → f.Pairwise (Ahead lt) → s.Pairwise (Ahead lt) → (mergeL lt f s).Pairwise (Ahead lt)
  | [], s, _, _, _, _, h => h
  | a :: f, s, hf, hs, hl, pf, ps => by
    obtain ⟨pa, pf⟩ := List.pairwise_cons.1 pf
    have hsp : ∀ b ∈ s.dropWhile (fun b => lt b a), b ∈ s := fun b hb => mem_dropWhile_of hb
    have pd : (s.takeWhile (fun b => lt b a) ++ s.dropWhile (fun b => lt b a)).Pairwise (Ahead lt) := by rw [List.takeWhile_append_dropWhile]; exact ps
    obtain ⟨pt, pdr, ptd⟩ := List.pairwise_append.1 pd
    have ih := mergeL_sorted W f (s.dropWhile (fun b => lt b a)) (fun x hx => hf x (by simp [hx])) (fun x hx => hs x (hsp x hx)) (fun x hx y hy => hl x (by simp [hx]) y (hsp y hy)) pf pdr
    have hpm := mergeL_perm lt f (s.dropWhile (fun b => lt b a))
    have hab : ∀ y ∈ s.dropWhile (fun b => lt b a), Ahead lt a y := by
      intro y hy
      cases hd : s.dropWhile (fun b => lt b a) with
      | nil => rw [hd] at hy; cases hy
      | cons d r =>
        have h0 := head_dropWhile_of hd
        have hds : d ∈ s := hsp d (by rw [hd]; simp)
        have h1 : Ahead lt a d := Ahead.of_not h0 (hl a (by simp) d hds)
        rw [hd] at hy pdr
        rcases List.mem_cons.1 hy with rfl | hy
        · exact h1
        · exact Ahead.trans W (hf a (by simp)) (hs d hds) (hs y (hsp y (by rw [hd]; simp [hy]))) h1 ((List.pairwise_cons.1 pdr).1 y hy)
    have haall : ∀ y ∈ mergeL lt f (s.dropWhile (fun b => lt b a)), Ahead lt a y := by
      intro y hy
      rcases List.mem_append.1 (hpm.mem_iff.1 hy) with hy | hy
      · exact pa y hy
      · exact hab y hy
    unfold mergeL
    refine List.pairwise_append.2 ⟨pt, List.pairwise_cons.2 ⟨haall, ih⟩, ?_⟩
    intro x hx y hy
    have hx' := mem_takeWhile_of hx
    have hxa : Ahead lt x a := .inl hx'.1
    rcases List.mem_cons.1 hy with rfl | hy
    · exact hxa
    · rcases List.mem_append.1 (hpm.mem_iff.1 hy) with hy | hy
      · exact Ahead.trans W (hs x hx'.2) (hf a (by simp)) (hf y (by simp [hy])) hxa (pa y hy)
      · exact ptd x hx y hy
theorem sortL_sorted {lt : Nat → Nat → Bool} {S : Nat → Prop} (W : Weak lt S) (l : List Nat) : (∀ a ∈ l, S a) → l.Pairwise (· < ·) → (sortL lt l).Pairwise (Ahead lt) := by
  induction l using sortL.induct with
  | case1 l h =>
    intro _ _
    unfold sortL; rw [dif_pos h]
    match l, h with
    | [], _ => exact List.Pairwise.nil
    | [a], _ => exact List.pairwise_cons.2 ⟨by simp, List.Pairwise.nil⟩
  | case2 l h ih1 ih2 =>
    intro hS hl
    unfold sortL
    rw [dif_neg h]
    have hl' : (l.take (l.length / 2) ++ l.drop (l.length / 2)).Pairwise (· < ·) := by rw [List.take_append_drop]; exact hl
    obtain ⟨p1, p2, p3⟩ := List.pairwise_append.1 hl'
    have m1 : ∀ a ∈ l.take (l.length / 2), a ∈ l := fun a ha => List.mem_of_mem_take ha
    have m2 : ∀ a ∈ l.drop (l.length / 2), a ∈ l := fun a ha => List.mem_of_mem_drop ha
    have q1 := sortL_perm lt (l.take (l.length / 2))
    have q2 := sortL_perm lt (l.drop (l.length / 2))
    exact mergeL_sorted W _ _ (fun a ha => hS a (m1 a (q1.mem_iff.1 ha))) (fun a ha => hS a (m2 a (q2.mem_iff.1 ha)))
      (fun a ha b hb => p3 a (q1.mem_iff.1 ha) b (q2.mem_iff.1 hb)) (ih1 (fun a ha => hS a (m1 a ha)) p1) (ih2 (fun a ha => hS a (m2 a ha)) p2)

theorem bestL_is {lt : Nat → Nat → Bool} {S : Nat → Prop} (W : Weak lt S) : ∀ (l : List Nat) (b : Nat) (done : List Nat), S b → (∀ x ∈ l, S x) → (∀ x ∈ done, S x) → b ∈ done → (∀ x ∈ done, x = b ∨ Ahead lt b x) → (∀ x ∈ done, ∀ y ∈ l, x < y) → l.Pairwise (· < ·) →
    bestL lt b l ∈ done ++ l ∧ ∀ x ∈ done ++ l, x = bestL lt b l ∨ Ahead lt (bestL lt b l) x
  | [], b, done, hb, _, _, hm, hd, _, _ => by rw [List.append_nil]; exact ⟨hm, hd⟩
  | i :: l, b, done, hb, hl, hdS, hm, hd, hlt, pl => by
    have hi : S i := hl i (by simp)
    obtain ⟨pi, pl⟩ := List.pairwise_cons.1 pl
    have hbi : b < i := hlt b hm i (by simp)
    have e : bestL lt b (i :: l) = bestL lt (if lt i b then i else b) l := rfl
    have ea : done ++ i :: l = (done ++ [i]) ++ l := by simp
    rw [e, ea]
    refine bestL_is W l _ (done ++ [i]) ?_ (fun x hx => hl x (by simp [hx])) ?_ ?_ ?_ ?_ pl
    · split <;> assumption
    · intro x hx
      rcases List.mem_append.1 hx with hx | hx
      · exact hdS x hx
      · rw [List.mem_singleton.1 hx]; exact hi
    · split
      · simp
      · simp [hm]
    · intro x hx
      rcases List.mem_append.1 hx with hx | hx
      · split
        · rename_i h
          right
          rcases hd x hx with rfl | h2
          · exact .inl h
          · exact Ahead.trans W hi hb (hdS x hx) (.inl h) h2
        · exact hd x hx
      · rw [List.mem_singleton.1 hx]
        split
        · left; rfl
        · right; exact Ahead.of_not (by simpa using ‹¬ lt i b = true›) hbi
    · intro x hx y hy
      rcases List.mem_append.1 hx with hx | hx
      · exact hlt x hx y (by simp [hy])
      · rw [List.mem_singleton.1 hx]; exact pi y hy
theorem pickL_is {lt : Nat → Nat → Bool} {S : Nat → Prop} (W : Weak lt S) {l : List Nat} {b : Nat} (hS : ∀ x ∈ l, S x) (pl : l.Pairwise (· < ·)) (h : pickL lt l = some b) : b ∈ l ∧ ∀ x ∈ l, x = b ∨ Ahead lt b x := by
  match l, h with
  | a :: l, h =>
    obtain ⟨p1, p2⟩ := List.pairwise_cons.1 pl
    have := bestL_is W l a [a] (hS a (by simp)) (fun x hx => hS x (by simp [hx])) (by simpa using hS a (by simp)) (by simp) (by simp) (by simpa using p1) p2
    have e : bestL lt a l = b := Option.some.inj h
    rw [e] at this
    exact this
theorem selL_is {lt : Nat → Nat → Bool} {S : Nat → Prop} (W : Weak lt S) : ∀ (n : Nat) (l : List Nat), l.length ≤ n → (∀ x ∈ l, S x) → l.Pairwise (· < ·) → (selL lt n l).Perm l ∧ (selL lt n l).Pairwise (Ahead lt)
  | 0, l, hn, _, _ => by
    have : l = [] := List.eq_nil_of_length_eq_zero (by omega)
    subst this
    exact ⟨List.Perm.refl _, List.Pairwise.nil⟩
  | n + 1, l, hn, hS, pl => by
    unfold selL
    cases hp : pickL lt l with
    | none =>
      match l, hp with
      | [], _ => exact ⟨List.Perm.refl _, List.Pairwise.nil⟩
    | some b =>
      obtain ⟨hb, hall⟩ := pickL_is W hS pl hp
      have hsub : ∀ x ∈ l.erase b, x ∈ l := fun x hx => List.mem_of_mem_erase hx
      have hlen := List.length_erase_of_mem hb
      have hpos : 0 < l.length := List.length_pos_of_mem hb
      obtain ⟨q1, q2⟩ := selL_is W n (l.erase b) (by omega) (fun x hx => hS x (hsub x hx)) (pl.sublist List.erase_sublist)
      refine ⟨(List.Perm.cons b q1).trans (List.perm_cons_erase hb).symm, List.pairwise_cons.2 ⟨?_, q2⟩⟩
      intro x hx
      have hx' := q1.mem_iff.1 hx
      rcases hall x (hsub x hx') with rfl | h
      · exfalso
        have hnd : l.Nodup := pl.imp (fun h => by omega)
        exact (List.Nodup.mem_erase_iff hnd).1 hx' |>.1 rfl
      · exact h
/-- Both ways come to one list. -/
theorem sortL_selL {lt : Nat → Nat → Bool} {S : Nat → Prop} (W : Weak lt S) {l : List Nat} (hS : ∀ x ∈ l, S x) (pl : l.Pairwise (· < ·)) {n : Nat} (hn : l.length ≤ n) : sortL lt l = selL lt n l := by
  obtain ⟨q1, q2⟩ := selL_is W n l hn hS pl
  have r1 := sortL_perm lt l
  have r2 := sortL_sorted W l hS pl
  refine List.Perm.eq_of_pairwise ?_ r2 q2 (r1.trans q1.symm)
  intro a b ha hb h1 h2
  exact (Ahead.asym W (hS a (r1.mem_iff.1 ha)) (hS b (q1.mem_iff.1 hb)) h1 h2).elim
theorem sortL_length (lt : Nat → Nat → Bool) (l : List Nat) : (sortL lt l).length = l.length := (sortL_perm lt l).length_eq
end Go.Proofs.Ytplkglepbedhoaa
