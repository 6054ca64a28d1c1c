/- A path parsed, by the program's walk. -/
import Derived.Test.YtpnafikmbbnecaaDoorGood
import Derived.Test.YtpnafikmbbnecaaDoorNameMath
import Derived.Test.YtpnafikmbbnecaaDoorVals
namespace Go.Proofs.YtpnafikmbbnecaaDoor
open Go.RowKit Go.Sort
set_option linter.unusedVariables false
set_option linter.unusedSimpArgs false
set_option maxRecDepth 100000

def strV (l : Bs) : Value := .string ⟨l.toArray⟩
def strsV (Q : List Bs) : List Value := Q.map strV
theorem strV_of (x : ByteArray) : strV x.data.toList = .string x := by unfold strV; rw [Lib.mk_data]
theorem strsV_length (Q : List Bs) : (strsV Q).length = Q.length := List.length_map ..
theorem strsV_append (P Q : List Bs) : strsV (P ++ Q) = strsV P ++ strsV Q := List.map_append
theorem strsV_one (Q : List Bs) : OneCells (strsV Q) := by
  intro u hu
  unfold strsV at hu
  rw [List.mem_map] at hu
  obtain ⟨x, _, rfl⟩ := hu
  rfl
theorem strsV_get {Q : List Bs} {i : Nat} {p : Bs} (h : Q[i]? = some p) : (strsV Q)[i]? = some (strV p) := by unfold strsV; rw [List.getElem?_map, h]; rfl
theorem info_str : (Tryd.prog.info? 9).map (fun i => (i.zero, i.size, i.bytes)) = some (some (.string ByteArray.empty), 1, 16) := by kernel_rfl
theorem indexByte_mem : ∀ (l : Bs) (c : UInt8), decide (0 ≤ Lib.indexByte l c) = decide (c ∈ l)
  | [], c => by simp [Lib.indexByte]
  | b :: l, c => by
    have ih := indexByte_mem l c
    have hge := Lib.indexByte_ge l c
    rw [Lib.indexByte]
    by_cases h : b = c
    · subst h; simp
    · have h1 : (b == c) = false := by simp [h]
      have h2 : ¬ c = b := fun e => h e.symm
      rw [h1]
      by_cases hm : Lib.indexByte l c = -1
      · rw [hm] at ih
        simp [hm, h2]
        simpa using ih
      · have e1 : (Lib.indexByte l c == -1) = false := by simp [hm]
        have h3 : decide (0 ≤ Lib.indexByte l c + 1) = decide (0 ≤ Lib.indexByte l c) := decide_eq_decide.2 (by omega)
        simp only [e1, Bool.false_eq_true, if_false]
        rw [h3, ih]
        simp [h2]
theorem index_one : ∀ (l : Bs) (c : UInt8), Lib.index l [c] = Lib.indexByte l c
  | [], c => rfl
  | b :: l, c => by
    have ih := index_one l c
    rw [Lib.index, Lib.indexByte, ih]
    by_cases h : b = c
    · subst h; simp [List.isPrefixOf]
    · have h2 : ¬ c = b := fun e => h e.symm
      simp [List.isPrefixOf, h, h2]
/-- The library's Split at a slash: the pieces. -/
def bits (s : ByteArray) : List ByteArray := Lib.splitB ⟨#[47]⟩ 0 (Lib.countB s ⟨#[47]⟩) s
theorem bits_pieces (s : ByteArray) : (bits s).map (·.data.toList) = pieces s.data.toList := by
  unfold bits
  rw [Lib.splitB_data]
  exact splitK_slash _
theorem bits_vals (s : ByteArray) : (bits s).map Value.string = strsV (pieces s.data.toList) := by
  rw [← bits_pieces]
  unfold strsV
  rw [List.map_map]
  exact List.map_congr_left fun x _ => (strV_of x).symm
theorem split_core (s : ByteArray) (w : World) (hs : Fit s) : Calls Tryd.prog 21 #[.string s, .string ⟨#[47]⟩, .int .i64 0, .int .i64 (-1)] w fun e w' =>
    e = .returned (.slice (some ⟨w.heap.size, 0, none⟩) (pieces s.data.toList).length (pieces s.data.toList).length) ∧ w' = w.alloc (.cells (strsV (pieces s.data.toList)).toArray 9) := by
  have hle := Lib.countB_le ⟨#[47]⟩ (by decide) s.size s (Nat.le_refl _)
  have hlen : (bits s).length = Lib.countB s ⟨#[47]⟩ + 1 := Lib.splitB_all ⟨#[47]⟩ (by decide) 0 _ s rfl
  have hpl : (pieces s.data.toList).length = Lib.countB s ⟨#[47]⟩ + 1 := by rw [← bits_pieces, List.length_map]; exact hlen
  have c := Any.strings_genSplit_core Tryd.lays221 (by kernel_rfl) s ⟨#[47]⟩ 0 (-1) (Lib.countB s ⟨#[47]⟩ + 1) w hs (by decide) (Nat.zero_le _)
    (fun x c _ => (Tryd.strings_Index_one x 47 _).mono fun e w' ⟨h1, h2⟩ => ⟨by rw [h1]; exact congrArg _ (congrArg _ (index_one _ _).symm), h2⟩)
    ((Tryd.strings_Count_one s 47 w).mono fun e w' ⟨h1, h2⟩ => ⟨by rw [h1]; exact congrArg _ (congrArg _ (congrArg Int.ofNat (Lib.count_one 47 s.data.toList).symm)), h2⟩)
    (by decide) (by decide) (by rw [if_pos (by decide)]; omega)
  rw [Nat.add_sub_cancel] at c
  refine c.mono ?_
  rintro e w' ⟨h1, h2⟩
  have hb : Lib.splitB ⟨#[47]⟩ 0 (Lib.countB s ⟨#[47]⟩) s = bits s := rfl
  rw [hb] at h1 h2
  refine ⟨by rw [h1, hlen, hpl], ?_⟩
  rw [h2, ← hlen, Lib.cellsOf_full, bits_vals]
  rfl
theorem split_is (s : ByteArray) (w : World) (hs : Fit s) : Calls Tryd.prog 14 #[.string s, .string ⟨#[47]⟩] w fun e w' =>
    e = .returned (.slice (some ⟨w.heap.size, 0, none⟩) (pieces s.data.toList).length (pieces s.data.toList).length) ∧ w' = w.alloc (.cells (strsV (pieces s.data.toList)).toArray 9) := by
  have HC := Lib.hid (split_core s w hs)
  go_enter Tryd.func14, Tryd.ntmps14
  go_wp2_with fail
  refine HC.out.mono ?_
  rintro e w' ⟨rfl, hw⟩
  rw [hw]
  go_wp2
  go_ret
  exact ⟨rfl, rfl⟩
/-- Why a text can't be a path. -/
def refE (l : Bs) : Int := if (0 : UInt8) ∈ l then 1 else if l = [] then 4 else if 255 < l.length then 9 else 0
theorem refE_bad {l : Bs} (h : refE l ≠ 0) : parseE l = refE l := by
  unfold refE at h ⊢
  unfold parseE
  by_cases h1 : (0 : UInt8) ∈ l
  · rw [if_pos h1, if_pos h1]
  · rw [if_neg h1, if_neg h1]
    by_cases h2 : l = []
    · rw [if_pos h2, if_pos h2]
    · rw [if_neg h2, if_neg h2]
      by_cases h3 : 255 < l.length
      · rw [if_pos h3, if_pos h3]
      · rw [if_neg h1, if_neg h2, if_neg h3] at h; exact absurd rfl h
theorem refE_good {l : Bs} (h : refE l = 0) : (0 : UInt8) ∉ l ∧ l ≠ [] ∧ l.length ≤ 255 := by
  unfold refE at h
  split at h
  · cases h
  · split at h
    · cases h
    · split at h
      · cases h
      · exact ⟨‹_›, ‹_›, by omega⟩
theorem refusal_is (s : ByteArray) (w : World) : Calls Tryd.prog 13 #[.string s] w fun e w' => e = .returned (.int .i64 (refE s.data.toList)) ∧ w = w' := by
  have hsz := Lib.size_eq s
  have htl := Lib.toList_data s
  have him := indexByte_mem s.data.toList 0
  have HIM := Lib.hid him
  clear him
  by_cases h1 : (0 : UInt8) ∈ s.data.toList
  · have E : Hid (refE s.data.toList = 1) := if_pos h1
    have hd : Hid (decide ((0 : UInt8) ∈ s.data.toList) = true) := decide_eq_true h1
    clear hsz htl h1
    go_enter Tryd.func13, Tryd.ntmps13
    go_wp2_with fail
    refine (Tryd.strings_Contains_one s 0 _).mono ?_
    rintro e w' ⟨rfl, rfl⟩
    rw [HIM.out, hd.out]
    go_wp2
    go_ret
    exact ⟨by rw [E.out]; rfl, rfl⟩
  · have hd : Hid (decide ((0 : UInt8) ∈ s.data.toList) = false) := decide_eq_false h1
    by_cases h0 : s.data.toList = []
    · have E : Hid (refE s.data.toList = 4) := by show _ = _; unfold refE; rw [if_neg h1, if_pos h0]
      have e1 : s.toList = [] := htl.trans h0
      have e2 : s.toList.isEmpty = true := by rw [e1]; rfl
      clear hsz htl h0 h1
      go_enter Tryd.func13, Tryd.ntmps13
      go_wp2_with fail
      refine (Tryd.strings_Contains_one s 0 _).mono ?_
      rintro e w' ⟨rfl, rfl⟩
      rw [HIM.out, hd.out]
      go_wp2
      go_ret
      exact ⟨by rw [E.out]; rfl, rfl⟩
    · have e1 : ¬ s.toList = [] := by rw [htl]; exact h0
      have e2 : s.toList.isEmpty = false := by cases h : s.toList with | nil => exact absurd h e1 | cons => rfl
      by_cases h26 : 255 < s.size
      · have E : Hid (refE s.data.toList = 9) := by show _ = _; unfold refE; rw [if_neg h1, if_neg h0, if_pos (by omega)]
        have h26' : (255 : Int) < (s.size : Int) := by omega
        clear hsz htl h0 h1
        go_enter Tryd.func13, Tryd.ntmps13
        go_wp2_with fail
        refine (Tryd.strings_Contains_one s 0 _).mono ?_
        rintro e w' ⟨rfl, rfl⟩
        rw [HIM.out, hd.out]
        go_wp2
        go_ret
        exact ⟨by rw [E.out]; rfl, rfl⟩
      · have E : Hid (refE s.data.toList = 0) := by show _ = _; unfold refE; rw [if_neg h1, if_neg h0, if_neg (by omega)]
        have h26' : ¬ (255 : Int) < (s.size : Int) := by omega
        clear hsz htl h0 h1
        go_enter Tryd.func13, Tryd.ntmps13
        go_wp2_with fail
        refine (Tryd.strings_Contains_one s 0 _).mono ?_
        rintro e w' ⟨rfl, rfl⟩
        rw [HIM.out, hd.out]
        go_wp2
        go_ret
        exact ⟨by rw [E.out]; rfl, rfl⟩
end Go.Proofs.YtpnafikmbbnecaaDoor
