/- May a name be an entry's? The library's ContainsAny, and dirent.Good, by their walks. -/
import Derived.Test.YtgakidimipipeaaGreatRune
namespace Go.Proofs.YtgakidimipipeaaGreat
open Go.RowKit Go.Sort
set_option linter.unusedVariables false
set_option linter.unusedSimpArgs false
set_option maxRecDepth 100000

theorem indexAny_bad : ∀ l : List UInt8, decide (0 ≤ Lib.indexAny l [0, 47]) = badB l
  | [] => rfl
  | b :: l => by
    have ih := indexAny_bad l
    have hge := Lib.indexAny_ge [0, 47] l
    have eb : badB (b :: l) = ((b == 0 || b == 47) || badB l) := rfl
    rw [eb, ← ih, Lib.indexAny]
    by_cases h : b = 0 ∨ b = 47
    · have h1 : ([0, 47] : List UInt8).contains b = true := by rcases h with rfl | rfl <;> rfl
      have h2 : (b == 0 || b == 47) = true := by rcases h with rfl | rfl <;> rfl
      rw [h1, h2]; rfl
    · have h1 : ([0, 47] : List UInt8).contains b = false := by
        have a1 : b ≠ 0 := fun e => h (.inl e)
        have a2 : b ≠ 47 := fun e => h (.inr e)
        simp [a1, a2]
      have h2 : (b == 0 || b == 47) = false := by
        have a1 : b ≠ 0 := fun e => h (.inl e)
        have a2 : b ≠ 47 := fun e => h (.inr e)
        simp [a1, a2]
      rw [h1, h2]
      by_cases hm : Lib.indexAny l [0, 47] = -1
      · simp [hm]
      · have e1 : (Lib.indexAny l [0, 47] == -1) = false := by simp [hm]
        simp only [e1, Bool.false_eq_true, if_false, Bool.false_or]
        exact decide_eq_decide.2 (by omega)
theorem zero_set (w : World) : (zeroValue 196).run Tryz.prog w = .ok (.agg (Array.replicate 256 (.bool false))) w := by kernel_rfl
/-- A text is short enough for the library's searches. -/
def Fit (s : ByteArray) : Prop := s.size < 4294967281
theorem any_is (s : ByteArray) (w : World) (hs : Fit s) : Calls Tryz.prog 78 #[.string s, .string ⟨#[0, 47]⟩] w fun e w' => (∃ i : Int, e = .returned (.int .i64 i) ∧ decide (0 ≤ i) = badB s.data.toList) ∧ Below w.heap.size w w' := by
  by_cases h8 : s.size ≤ 8
  · exact any_short s w h8
  · refine (Tryz.strings_IndexAny_long zero_set s ⟨#[0, 47]⟩ w (by decide) (by omega) hs (by decide) ?_).mono ?_
    · intro j b hj
      have : b ∈ ([0, 47] : List UInt8) := List.mem_of_getElem? hj
      simp at this
      rcases this with rfl | rfl <;> decide
    · rintro e w' ⟨he, hw⟩
      refine ⟨⟨_, he, indexAny_bad _⟩, ?_⟩
      rw [hw]
      exact (below_box w _).alloc (by simp) _
theorem containsAny_is (s : ByteArray) (w : World) (hs : Fit s) : Calls Tryz.prog 35 #[.string s, .string ⟨#[0, 47]⟩] w fun e w' => e = .returned (.bool (badB s.data.toList)) ∧ Below w.heap.size w w' := by
  have HC := Lib.hid (any_is s w hs)
  go_enter Tryz.func35, Tryz.ntmps35
  go_wp2_with fail
  refine HC.out.mono ?_
  rintro e w' ⟨⟨i, rfl, hi⟩, hb⟩
  have HI := Lib.hid hi
  have HB := Lib.hid hb
  clear hi hb
  go_wp2
  go_ret
  exact ⟨by rw [← HI.out]; rfl, HB.out⟩
/-- The error of a name. -/
def goodE (l : List UInt8) : Int := if badB l then 1 else if l = [] then 4 else if 26 < l.length then 9 else 0
theorem good_is (s : ByteArray) (w : World) (hs : Fit s) : Calls Tryz.prog 12 #[.string s] w fun e w' => e = .returned (.int .i64 (goodE s.data.toList)) ∧ Below w.heap.size w w' := by
  have HC := Lib.hid (containsAny_is s w hs)
  have hsz := Lib.size_eq s
  have htl := Lib.toList_data s
  cases hb : badB s.data.toList with
  | true =>
    have E : Hid (goodE s.data.toList = 1) := by show _ = _; unfold goodE; rw [hb]; rfl
    have HBB := Lib.hid hb
    clear hb hsz htl
    go_enter Tryz.func12, Tryz.ntmps12
    go_wp2_with fail
    refine HC.out.mono ?_
    rintro e w' ⟨rfl, hb⟩
    rw [HBB.out]
    have HB := Lib.hid hb
    clear hb
    go_wp2
    go_ret
    exact ⟨by rw [E.out]; rfl, HB.out⟩
  | false =>
    have HBB := Lib.hid hb
    by_cases h0 : s.data.toList = []
    · have E : Hid (goodE s.data.toList = 4) := by show _ = _; unfold goodE; rw [hb, if_neg (by decide), if_pos h0]
      have e1 : s.toList = [] := htl.trans h0
      have e2 : s.toList.isEmpty = true := by rw [e1]; rfl
      clear hb hsz htl h0
      go_enter Tryz.func12, Tryz.ntmps12
      go_wp2_with fail
      refine HC.out.mono ?_
      rintro e w' ⟨rfl, hb⟩
      rw [HBB.out]
      have HB := Lib.hid hb
      clear hb
      go_wp2
      go_ret
      exact ⟨by rw [E.out]; rfl, HB.out⟩
    · have e1 : ¬ s.toList = [] := by rw [htl]; exact h0
      have e2 : s.toList.isEmpty = false := by cases h : s.toList with | nil => exact absurd h e1 | cons => rfl
      by_cases h26 : 26 < s.size
      · have E : Hid (goodE s.data.toList = 9) := by show _ = _; unfold goodE; rw [hb, if_neg (by decide), if_neg h0, if_pos (by omega)]
        have h26' : (26 : Int) < (s.size : Int) := by omega
        clear hb hsz htl h0
        go_enter Tryz.func12, Tryz.ntmps12
        go_wp2_with fail
        refine HC.out.mono ?_
        rintro e w' ⟨rfl, hb⟩
        rw [HBB.out]
        have HB := Lib.hid hb
        clear hb
        go_wp2
        go_ret
        exact ⟨by rw [E.out]; rfl, HB.out⟩
      · have E : Hid (goodE s.data.toList = 0) := by show _ = _; unfold goodE; rw [hb, if_neg (by decide), if_neg h0, if_neg (by omega)]
        have h26' : ¬ (26 : Int) < (s.size : Int) := by omega
        clear hb hsz htl h0
        go_enter Tryz.func12, Tryz.ntmps12
        go_wp2_with fail
        refine HC.out.mono ?_
        rintro e w' ⟨rfl, hb⟩
        rw [HBB.out]
        have HB := Lib.hid hb
        clear hb
        go_wp2
        go_ret
        exact ⟨by rw [E.out]; rfl, HB.out⟩
end Go.Proofs.YtgakidimipipeaaGreat
