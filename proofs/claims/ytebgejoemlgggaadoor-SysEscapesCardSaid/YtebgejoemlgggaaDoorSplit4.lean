/- A text cut at blanks, at most so often. -/
import Derived.Test.YtebgejoemlgggaaDoorCall3
import Derived.Lib.SplitLaws
namespace Go.Proofs.YtebgejoemlgggaaDoor
open Go.RowKit Go.Sort
set_option linter.unusedVariables false
set_option linter.unusedSimpArgs false
set_option maxRecDepth 100000

/-- The pieces of a text, with at most so many cuts. -/
def wordsK (k : Nat) (l : Bx) : List Bx := Lib.splitK [32] 0 k l
theorem index_blank : ∀ l : Bx, (Lib.index l [32] = -1 ∧ (32 : UInt8) ∉ l) ∨ ∃ i : Nat, Lib.index l [32] = (i : Int) ∧ l[i]? = some 32 ∧ (32 : UInt8) ∉ l.take i
  | [] => .inl ⟨by simp [Lib.index], by simp⟩
  | c :: l => by
    by_cases h : c = 32
    · subst h
      exact .inr ⟨0, by rw [Lib.index]; simp [List.isPrefixOf], rfl, by simp⟩
    · have hp : ([32] : Bx).isPrefixOf (c :: l) = false := by simp [List.isPrefixOf, Ne.symm h]
      have hix : Lib.index (c :: l) [32] = if Lib.index l [32] == -1 then -1 else Lib.index l [32] + 1 := by rw [Lib.index, hp]; simp
      rcases index_blank l with ⟨h1, h2⟩ | ⟨i, h1, h2, h3⟩
      · refine .inl ⟨by rw [hix, h1]; rfl, ?_⟩
        intro hm
        rcases List.mem_cons.1 hm with hm | hm
        · exact h hm.symm
        · exact h2 hm
      · refine .inr ⟨i + 1, ?_, by simpa using h2, ?_⟩
        · rw [hix, h1, if_neg (by simp)]; rfl
        · rw [List.take_succ_cons]
          intro hm
          rcases List.mem_cons.1 hm with hm | hm
          · exact h hm.symm
          · exact h3 hm
theorem join_cons (x y : Bx) (l : List Bx) : Lib.join (x :: y :: l) [32] = x ++ 32 :: Lib.join (y :: l) [32] := by simp [Lib.join, List.intercalate, List.intersperse]
theorem join_one' (x : Bx) : Lib.join [x] [32] = x := Lib.join_one x [32]
theorem wordsK_ne (k : Nat) (l : Bx) : wordsK k l ≠ [] := by
  unfold wordsK
  cases k with
  | zero => simp [Lib.splitK]
  | succ k => unfold Lib.splitK; split <;> simp
theorem wordsK_join : ∀ (k : Nat) (l : Bx), Lib.join (wordsK k l) [32] = l
  | 0, l => join_one' l
  | k + 1, l => by
    unfold wordsK Lib.splitK
    rcases index_blank l with ⟨h1, _⟩ | ⟨i, h1, h2, _⟩
    · rw [h1]; exact join_one' l
    · rw [h1, if_neg (by simp)]
      have ih := wordsK_join k (l.drop (i + 1))
      obtain ⟨y, r, hy⟩ : ∃ y r, wordsK k (l.drop (i + 1)) = y :: r := by
        cases hw : wordsK k (l.drop (i + 1)) with
        | nil => exact absurd hw (wordsK_ne _ _)
        | cons y r => exact ⟨y, r, rfl⟩
      show Lib.join (l.take i :: wordsK k (l.drop (i + 1))) [32] = l
      rw [hy, join_cons, ← hy, ih, ← drop_cons h2, List.take_append_drop]
theorem wordsK_words : ∀ (l : List Bx) (x : Bx) (k : Nat), (∀ y ∈ x :: l, (32 : UInt8) ∉ y) → l.length ≤ k → wordsK k (Lib.join (x :: l) [32]) = x :: l
  | [], x, k, h, _ => by
    rw [join_one']
    unfold wordsK
    cases k with
    | zero => rfl
    | succ k =>
      rcases index_blank x with ⟨h1, _⟩ | ⟨i, _, h2, _⟩
      · unfold Lib.splitK; rw [h1]; rfl
      · exact absurd (List.mem_of_getElem? h2) (h x (by simp))
  | y :: l, x, 0, h, hk => by simp at hk
  | y :: l, x, k + 1, h, hk => by
    have ih := wordsK_words l y k (fun z hz => h z (List.mem_cons_of_mem _ hz)) (by simpa using hk)
    rw [join_cons]
    unfold wordsK Lib.splitK
    rcases index_blank (x ++ 32 :: Lib.join (y :: l) [32]) with ⟨_, h2⟩ | ⟨i, h1, h2, h3⟩
    · exact absurd (by simp) h2
    · have hx : (32 : UInt8) ∉ x := h x (by simp)
      have hi : i = x.length := by
        rcases Nat.lt_trichotomy i x.length with hlt | heq | hgt
        · rw [List.getElem?_append_left hlt] at h2
          exact absurd (List.mem_of_getElem? h2) hx
        · exact heq
        · exfalso
          apply h3
          rw [List.take_append, List.mem_append]
          refine .inr ?_
          obtain ⟨m, hm⟩ : ∃ m, i - x.length = m + 1 := ⟨i - x.length - 1, by omega⟩
          rw [hm, List.take_succ_cons]
          simp
      rw [h1, if_neg (by simp), hi]
      simp only [Int.toNat_natCast, Nat.add_zero]
      rw [List.take_left, List.length_singleton, List.drop_append]
      have : x.length + 1 - x.length = 1 := by omega
      rw [this, List.drop_of_length_le (by omega), List.nil_append, List.drop_succ_cons, List.drop_zero]
      exact congrArg _ ih
theorem join_size_le (x : Bx) (l : List Bx) : l.length ≤ (Lib.join (x :: l) [32]).length := by
  induction l generalizing x with
  | nil => simp
  | cons y l ih =>
    have := ih y
    rw [join_cons, List.length_append, List.length_cons, List.length_cons]
    omega
theorem indexB_one (x : ByteArray) : Lib.indexB x ⟨#[32]⟩ = Lib.index x.data.toList [32] := rfl
set_option maxHeartbeats 400000 in
theorem splitN_is (s : ByteArray) (w : World) (hs : s.size ≤ 20000) : Calls Tryd.prog 50 #[.string s, .string ⟨#[32]⟩, .int .i64 4] w fun e w' =>
    ∃ (P : List ByteArray) (N : Nat), P.map (·.data.toList) = wordsK (min 4 (s.size + 1) - 1) s.data.toList ∧ P.length ≤ N ∧ N ≤ 4 ∧ e = .returned (.slice (some ⟨w.heap.size, 0, none⟩) P.length N) ∧ w' = w.alloc (.cells (Lib.cellsOf P N) 9) := by
  have c := Any.strings_genSplit_core Tryd.lays221 (by kernel_rfl) s ⟨#[32]⟩ 0 4 (min 4 (s.size + 1)) w (by omega) (by decide) (Nat.zero_le _)
    (fun x c _ => (Tryd.strings_Index_one x 32 _).mono fun e w' ⟨h1, h2⟩ => ⟨by rw [h1]; exact congrArg _ (congrArg _ (Lib.index_one x.data.toList 32).symm), h2⟩)
    ((Tryd.strings_Count_one s 32 w).mono fun e w' ⟨h1, h2⟩ => ⟨by rw [h1]; exact congrArg _ (congrArg _ (congrArg Int.ofNat (Lib.count_one 32 s.data.toList).symm)), h2⟩)
    (by decide) (by decide) (by rw [if_neg (by decide)]; omega)
  have HC := Lib.hid c
  clear c
  go_enter Tryd.func50, Tryd.ntmps50
  go_wp2_with fail
  refine HC.out.mono ?_
  rintro e w' ⟨rfl, hw⟩
  rw [hw]
  go_wp2
  go_ret
  refine ⟨Lib.splitB ⟨#[32]⟩ 0 (min 4 (s.size + 1) - 1) s, min 4 (s.size + 1), Lib.splitB_data _ _ _ _, ?_, by omega, rfl, rfl⟩
  have := Lib.splitB_length_le ⟨#[32]⟩ 0 (min 4 (s.size + 1) - 1) s
  omega
end Go.Proofs.YtebgejoemlgggaaDoor
