/- What a file costs: the document's way to count. -/
import Derived.Test.YtcpbffmffoneeaaDoorPtrMath
namespace Go.Proofs.YtcpbffmffoneeaaDoor
set_option linter.unusedVariables false

theorem mem_need0 {L : List Int} {x : Int} : ((0 : Int), x) ∈ L.flatMap needL ↔ x ∈ L ∧ blkB x = true := by
  rw [List.mem_flatMap]
  constructor
  · rintro ⟨y, hy, h⟩
    unfold needL at h
    split at h
    · rename_i hb
      split at h
      · simp at h; subst h; exact ⟨hy, hb⟩
      · split at h
        · simp at h; subst h; exact ⟨hy, hb⟩
        · simp at h; subst h; exact ⟨hy, hb⟩
    · simp at h
  · rintro ⟨h1, h2⟩
    refine ⟨x, h1, ?_⟩
    unfold needL
    rw [if_pos h2]
    (repeat' split) <;> simp
theorem mem_need1 {L : List Int} : ((1 : Int), (0 : Int)) ∈ L.flatMap needL ↔ ∃ y ∈ L, blkB y = true ∧ 8 ≤ y ∧ y < 40 := by
  rw [List.mem_flatMap]
  constructor
  · rintro ⟨y, hy, h⟩
    refine ⟨y, hy, ?_⟩
    unfold needL at h
    split at h
    · rename_i hb
      split at h
      · simp at h
      · split at h
        · exact ⟨hb, by omega, by omega⟩
        · simp at h
    · simp at h
  · rintro ⟨y, hy, hb, h1, h2⟩
    refine ⟨y, hy, ?_⟩
    unfold needL
    rw [if_pos hb, if_neg (by omega), if_pos h2]
    simp
theorem mem_need2 {L : List Int} {k : Int} : ((2 : Int), k) ∈ L.flatMap needL ↔ ∃ y ∈ L, blkB y = true ∧ 40 ≤ y ∧ (y - 40) / 32 = k := by
  rw [List.mem_flatMap]
  constructor
  · rintro ⟨y, hy, h⟩
    refine ⟨y, hy, ?_⟩
    unfold needL at h
    split at h
    · rename_i hb
      split at h
      · simp at h
      · split at h
        · simp at h
        · simp at h; exact ⟨hb, by omega, h.symm⟩
    · simp at h
  · rintro ⟨y, hy, hb, h1, h2⟩
    refine ⟨y, hy, ?_⟩
    unfold needL
    rw [if_pos hb, if_neg (by omega), if_neg (by omega), h2]
    simp
theorem mem_need3 {L : List Int} : ((3 : Int), (0 : Int)) ∈ L.flatMap needL ↔ ∃ y ∈ L, blkB y = true ∧ 40 ≤ y := by
  rw [List.mem_flatMap]
  constructor
  · rintro ⟨y, hy, h⟩
    refine ⟨y, hy, ?_⟩
    unfold needL at h
    split at h
    · rename_i hb
      split at h
      · simp at h
      · split at h
        · simp at h
        · exact ⟨hb, by omega⟩
    · simp at h
  · rintro ⟨y, hy, hb, h1⟩
    refine ⟨y, hy, ?_⟩
    unfold needL
    rw [if_pos hb, if_neg (by omega), if_neg (by omega)]
    simp
theorem addN_length {s : List (Int × Int)} {x : Int × Int} : (addN s x).length = s.length + (if x ∈ s then 0 else 1) := by
  unfold addN; split <;> simp
/-- A block more. -/
theorem costL_snoc {L : List Int} {x : Int} (hb : blkB x = true) (hx : x ∉ L) :
    (x < 8 → costL (L ++ [x]) = costL L + 1) ∧
    (8 ≤ x → x < 40 → costL (L ++ [x]) = costL L + 1 + (if ((1 : Int), (0 : Int)) ∈ L.flatMap needL then 0 else 1)) ∧
    (40 ≤ x → costL (L ++ [x]) = costL L + 1 + (if ((2 : Int), (x - 40) / 32) ∈ L.flatMap needL then 0 else 1) + (if ((3 : Int), (0 : Int)) ∈ L.flatMap needL then 0 else 1)) := by
  have h0 : ((0 : Int), x) ∉ onceN (L.flatMap needL) := fun h => hx (mem_need0.1 (mem_onceN.1 h)).1
  have e : costL (L ++ [x]) = 1 + ((needL x).foldl addN (onceN (L.flatMap needL))).length := by
    unfold costL onceN
    rw [List.flatMap_append, List.foldl_append]
    simp
  rw [e]
  unfold costL
  have hm : ∀ y, y ∈ onceN (L.flatMap needL) ↔ y ∈ L.flatMap needL := fun y => mem_onceN
  generalize onceN (L.flatMap needL) = s at h0 hm
  generalize L.flatMap needL = M at hm
  unfold needL
  rw [if_pos hb]
  refine ⟨fun h1 => ?_, fun h1 h2 => ?_, fun h1 => ?_⟩
  · rw [if_pos h1]
    simp only [List.foldl_cons, List.foldl_nil, addN_length, if_neg h0]
    omega
  · rw [if_neg (by omega), if_pos h2]
    simp only [List.foldl_cons, List.foldl_nil, addN_length, if_neg h0]
    have e1 : ((1 : Int), (0 : Int)) ∈ addN s (0, x) ↔ ((1 : Int), (0 : Int)) ∈ M := by rw [mem_addN, hm]; simp
    by_cases hh : ((1 : Int), (0 : Int)) ∈ M
    · rw [if_pos (e1.2 hh), if_pos hh]; omega
    · rw [if_neg (fun h => hh (e1.1 h)), if_neg hh]; omega
  · rw [if_neg (by omega), if_neg (by omega)]
    simp only [List.foldl_cons, List.foldl_nil, addN_length, if_neg h0]
    have e1 : ((2 : Int), (x - 40) / 32) ∈ addN s (0, x) ↔ ((2 : Int), (x - 40) / 32) ∈ M := by rw [mem_addN, hm]; simp
    have e2 : ((3 : Int), (0 : Int)) ∈ addN (addN s (0, x)) (2, (x - 40) / 32) ↔ ((3 : Int), (0 : Int)) ∈ M := by rw [mem_addN, mem_addN, hm]; simp
    by_cases hh : ((2 : Int), (x - 40) / 32) ∈ M
    · rw [if_pos (e1.2 hh), if_pos hh]
      by_cases hk : ((3 : Int), (0 : Int)) ∈ M
      · rw [if_pos (e2.2 hk), if_pos hk]; omega
      · rw [if_neg (fun h => hk (e2.1 h)), if_neg hk]; omega
    · rw [if_neg (fun h => hh (e1.1 h)), if_neg hh]
      by_cases hk : ((3 : Int), (0 : Int)) ∈ M
      · rw [if_pos (e2.2 hk), if_pos hk]; omega
      · rw [if_neg (fun h => hk (e2.1 h)), if_neg hk]; omega
/-- The order, and what stands twice, count for nothing. -/
theorem costL_same {L L' : List Int} (h : ∀ x, blkB x = true → (x ∈ L ↔ x ∈ L')) : costL L = costL L' := by
  unfold costL
  congr 1
  have hm : ∀ y : Int × Int, y ∈ L.flatMap needL ↔ y ∈ L'.flatMap needL := by
    intro y
    rw [List.mem_flatMap, List.mem_flatMap]
    have hb : ∀ x, y ∈ needL x → blkB x = true := by
      intro x hx
      unfold needL at hx
      split at hx
      · assumption
      · simp at hx
    exact ⟨fun ⟨x, h1, h2⟩ => ⟨x, (h x (hb x h2)).1 h1, h2⟩, fun ⟨x, h1, h2⟩ => ⟨x, (h x (hb x h2)).2 h1, h2⟩⟩
  exact ((List.perm_ext_iff_of_nodup (nodup_onceN _) (nodup_onceN _)).2 fun y => by rw [mem_onceN, mem_onceN]; exact hm y).length_eq

/-- Those of the first i that are there. -/
def hasL (S : Nat → Bool) (i : Nat) : List Int := ((List.range i).filter S).map Int.ofNat
theorem hasL_zero (S : Nat → Bool) : hasL S 0 = [] := rfl
theorem hasL_yes {S : Nat → Bool} {i : Nat} (h : S i = true) : hasL S (i + 1) = hasL S i ++ [(i : Int)] := by
  unfold hasL; rw [List.range_succ, List.filter_append, List.map_append]; simp [h]
theorem hasL_no {S : Nat → Bool} {i : Nat} (h : S i = false) : hasL S (i + 1) = hasL S i := by
  unfold hasL; rw [List.range_succ, List.filter_append, List.map_append]; simp [h]
theorem mem_hasL {S : Nat → Bool} {i : Nat} {x : Int} : x ∈ hasL S i ↔ ∃ n : Nat, n < i ∧ S n = true ∧ (n : Int) = x := by
  unfold hasL; simp [List.mem_map, List.mem_filter, and_assoc]
theorem ite_of {p q : Prop} [Decidable p] [Decidable q] (h : p ↔ q) : (if p then 0 else 1 : Nat) = if q then 0 else 1 := by
  by_cases hp : p
  · rw [if_pos hp, if_pos (h.1 hp)]
  · rw [if_neg hp, if_neg (fun hq => hp (h.2 hq))]
/-- What the document's count knows behind the first i. -/
structure Counts (S : Nat → Bool) (i : Nat) (n : Nat) (sg db : Bool) (lf : Int) : Prop where
  n : n = costL (hasL S i)
  sg : sg = true ↔ ∃ k : Nat, k < i ∧ S k = true ∧ 8 ≤ k ∧ k < 40
  db : db = true ↔ ∃ k : Nat, k < i ∧ S k = true ∧ 40 ≤ k
  le : ∀ k : Nat, k < i → S k = true → 40 ≤ k → ((k : Int) - 40) / 32 ≤ lf
  at_ : lf = -1 ∨ ∃ k : Nat, k < i ∧ S k = true ∧ 40 ≤ k ∧ ((k : Int) - 40) / 32 = lf
theorem Counts.zero (S : Nat → Bool) : Counts S 0 1 false false (-1) := by
  refine ⟨rfl, ?_, ?_, ?_, .inl rfl⟩
  · simp
  · simp
  · intro k hk; omega
theorem Counts.no {S : Nat → Bool} {i n : Nat} {sg db : Bool} {lf : Int} (h : Counts S i n sg db lf) (hS : S i = false) : Counts S (i + 1) n sg db lf := by
  have hl : ∀ k : Nat, k < i + 1 ∧ S k = true ↔ k < i ∧ S k = true := by
    intro k
    constructor
    · rintro ⟨h1, h2⟩
      refine ⟨?_, h2⟩
      have : k ≠ i := fun e => by rw [e, hS] at h2; cases h2
      omega
    · rintro ⟨h1, h2⟩; exact ⟨by omega, h2⟩
  refine ⟨by rw [hasL_no hS]; exact h.n, h.sg.trans ?_, h.db.trans ?_, fun k hk hs => h.le k ((hl k).1 ⟨hk, hs⟩).1 hs, ?_⟩
  · exact ⟨fun ⟨k, a, b, c⟩ => ⟨k, by omega, b, c⟩, fun ⟨k, a, b, c⟩ => ⟨k, ((hl k).1 ⟨a, b⟩).1, b, c⟩⟩
  · exact ⟨fun ⟨k, a, b, c⟩ => ⟨k, by omega, b, c⟩, fun ⟨k, a, b, c⟩ => ⟨k, ((hl k).1 ⟨a, b⟩).1, b, c⟩⟩
  · rcases h.at_ with e | ⟨k, a, b, c⟩
    · exact .inl e
    · exact .inr ⟨k, by omega, b, c⟩
theorem Counts.yes {S : Nat → Bool} {i n : Nat} {sg db : Bool} {lf : Int} (h : Counts S i n sg db lf) (hS : S i = true) (hi : i < 1064) :
    (i < 8 → Counts S (i + 1) (n + 1) sg db lf) ∧
    (8 ≤ i → i < 40 → Counts S (i + 1) (n + 1 + (if sg then 0 else 1)) true db lf) ∧
    (40 ≤ i → Counts S (i + 1) (n + 1 + (if ((i : Int) - 40) / 32 = lf then 0 else 1) + (if db then 0 else 1)) sg true (((i : Int) - 40) / 32)) := by
  have hb : blkB (i : Int) = true := isB_iff.2 (by omega)
  have hx : (i : Int) ∉ hasL S i := fun hh => by obtain ⟨k, h1, _, h2⟩ := mem_hasL.1 hh; omega
  obtain ⟨c1, c2, c3⟩ := costL_snoc hb hx
  have m1 : ((1 : Int), (0 : Int)) ∈ (hasL S i).flatMap needL ↔ sg = true := by
    rw [mem_need1, h.sg]
    constructor
    · rintro ⟨y, hy, _, a, b⟩
      obtain ⟨k, h1, h2, rfl⟩ := mem_hasL.1 hy
      exact ⟨k, h1, h2, by omega, by omega⟩
    · rintro ⟨k, h1, h2, a, b⟩
      exact ⟨k, mem_hasL.2 ⟨k, h1, h2, rfl⟩, isB_iff.2 (by omega), by omega, by omega⟩
  have m3 : ((3 : Int), (0 : Int)) ∈ (hasL S i).flatMap needL ↔ db = true := by
    rw [mem_need3, h.db]
    constructor
    · rintro ⟨y, hy, _, a⟩
      obtain ⟨k, h1, h2, rfl⟩ := mem_hasL.1 hy
      exact ⟨k, h1, h2, by omega⟩
    · rintro ⟨k, h1, h2, a⟩
      exact ⟨k, mem_hasL.2 ⟨k, h1, h2, rfl⟩, isB_iff.2 (by omega), by omega⟩
  refine ⟨fun h1 => ?_, fun h1 h2 => ?_, fun h1 => ?_⟩
  · refine ⟨by rw [hasL_yes hS, c1 (by omega), h.n], h.sg.trans ?_, h.db.trans ?_, ?_, ?_⟩
    · exact ⟨fun ⟨k, a, b, c⟩ => ⟨k, by omega, b, c⟩, fun ⟨k, a, b, c⟩ => ⟨k, by omega, b, c⟩⟩
    · exact ⟨fun ⟨k, a, b, c⟩ => ⟨k, by omega, b, c⟩, fun ⟨k, a, b, c⟩ => ⟨k, by omega, b, c⟩⟩
    · intro k hk hs h40; exact h.le k (by omega) hs h40
    · rcases h.at_ with e | ⟨k, a, b, c⟩
      · exact .inl e
      · exact .inr ⟨k, by omega, b, c⟩
  · refine ⟨?_, ?_, h.db.trans ?_, ?_, ?_⟩
    · rw [hasL_yes hS, c2 (by omega) (by omega), ← h.n]
      have e1 : (if ((1 : Int), (0 : Int)) ∈ (hasL S i).flatMap needL then 0 else 1) = (if sg = true then 0 else 1) := ite_of m1
      rw [e1]
    · exact ⟨fun _ => ⟨i, by omega, hS, h1, h2⟩, fun _ => rfl⟩
    · exact ⟨fun ⟨k, a, b, c⟩ => ⟨k, by omega, b, c⟩, fun ⟨k, a, b, c⟩ => ⟨k, by omega, b, c⟩⟩
    · intro k hk hs h40; exact h.le k (by omega) hs h40
    · rcases h.at_ with e | ⟨k, a, b, c⟩
      · exact .inl e
      · exact .inr ⟨k, by omega, b, c⟩
  · have m2 : ((2 : Int), ((i : Int) - 40) / 32) ∈ (hasL S i).flatMap needL ↔ ((i : Int) - 40) / 32 = lf := by
      rw [mem_need2]
      constructor
      · rintro ⟨y, hy, _, a, b⟩
        obtain ⟨k, g1, g2, rfl⟩ := mem_hasL.1 hy
        have := h.le k g1 g2 (by omega)
        rcases h.at_ with e | ⟨k2, g3, g4, g5, g6⟩
        · omega
        · omega
      · intro e
        rcases h.at_ with e2 | ⟨k2, g3, g4, g5, g6⟩
        · omega
        · exact ⟨k2, mem_hasL.2 ⟨k2, g3, g4, rfl⟩, isB_iff.2 (by omega), by omega, by omega⟩
    refine ⟨?_, h.sg.trans ?_, ?_, ?_, ?_⟩
    · rw [hasL_yes hS, c3 (by omega), ← h.n]
      have e3 : (if ((3 : Int), (0 : Int)) ∈ (hasL S i).flatMap needL then 0 else 1) = (if db = true then 0 else 1) := ite_of m3
      rw [e3]
      by_cases e : ((i : Int) - 40) / 32 = lf
      · rw [if_pos (m2.2 e), if_pos e]
      · rw [if_neg (fun hh => e (m2.1 hh)), if_neg e]
    · exact ⟨fun ⟨k, a, b, c⟩ => ⟨k, by omega, b, c⟩, fun ⟨k, a, b, c⟩ => ⟨k, by omega, b, c⟩⟩
    · exact ⟨fun _ => ⟨i, by omega, hS, h1⟩, fun _ => rfl⟩
    · intro k hk hs h40; omega
    · exact .inr ⟨i, by omega, hS, h1, rfl⟩
end Go.Proofs.YtcpbffmffoneeaaDoor
