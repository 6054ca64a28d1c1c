/- The chain: files, sets and ends of a pipe, plain facts. -/
import Derived.Test.YtebkkbmplndcpaaGononjmjk
import Derived.Test.YtebkkbmplndcpaaGmdbbnaco
import Derived.Test.YtebkkbmplndcpaaGgfpollak
import Derived.Test.YtebkkbmplndcpaaGmhnnjgja
namespace Go.Proofs.Ytebkkbmplndcpaa
open Go.RowKit Go.Sort
set_option linter.unusedVariables false
set_option linter.unusedSimpArgs false
set_option maxRecDepth 100000

/-- The end to read, the end to write, of so many that know them. -/
def fileC (c : Nat) : FileD := ⟨2, 1, 0, 1, (c : Int)⟩
def fileO (o : Nat) : FileD := if o = 0 then zeroF else ⟨3, 1, 0, 2, (o : Int)⟩
def flC (c o : Nat) : List FileD := [fileC c, fileO o, zeroF, zeroF, zeroF, zeroF, zeroF, zeroF]
def setC (b : Bool) : List Int := [0, if b then 1 else -1, -1, -1]
theorem setC_len (b : Bool) : (setC b).length = 4 := rfl
theorem all_yes : allL (setC true) = [0, 1] := by decide
theorem all_no : allL (setC false) = [0] := by decide
theorem take_yes : takeS (setC true) 1 = (setC false, 1, 0) := by decide
theorem take_no : takeS (setC false) 1 = (setC false, 0, 2) := by decide
theorem get_one : getS (setC true) 1 = (1, 0) ∧ getS (setC false) 1 = (0, 2) := by decide
theorem get_zero (b : Bool) : getS (setC b) 0 = (0, 0) := by cases b <;> decide
theorem openC {c o : Nat} (hc : 1 ≤ c) : openAt (flC c o) 0 = some (fileC c) := by
  unfold openAt
  rw [if_pos (by decide)]
  show (if knownB (fileC c) = true then some (fileC c) else none) = _
  have : knownB (fileC c) = true := by unfold knownB fileC; simp; omega
  rw [if_pos this]
theorem openO {c o : Nat} (ho : 1 ≤ o) : openAt (flC c o) 1 = some ⟨3, 1, 0, 2, (o : Int)⟩ := by
  unfold openAt
  rw [if_pos (by decide)]
  have e : fileO o = ⟨3, 1, 0, 2, (o : Int)⟩ := by unfold fileO; rw [if_neg (by omega)]
  show (if knownB (fileO o) = true then some (fileO o) else none) = _
  have : knownB (fileO o) = true := by rw [e]; unfold knownB; simp; omega
  rw [if_pos this, e]
theorem ref_in {c o : Nat} (hc : 1 ≤ c) : refF (flC c o) 0 = (flC (c + 1) o, 0) := by
  unfold refF
  rw [openC hc]
  show ((flC c o).set 0 _, (0 : Int)) = _
  unfold flC fileC
  simp
theorem ref_out {c o : Nat} (ho : 1 ≤ o) : refF (flC c o) 1 = (flC c (o + 1), 0) := by
  unfold refF
  rw [openO ho]
  show ((flC c o).set 1 _, (0 : Int)) = _
  unfold flC
  have e : fileO (o + 1) = ⟨3, 1, 0, 2, ((o + 1 : Nat) : Int)⟩ := by unfold fileO; rw [if_neg (by omega)]
  rw [e]
  simp
theorem close_in {c o : Nat} (hc : 2 ≤ c) : closeF (flC c o) 0 = (flC (c - 1) o, fileC c, false, 0) := by
  unfold closeF
  rw [openC (by omega)]
  have h1 : ¬ (fileC c).refs = 1 := by show ¬ (c : Int) = 1; omega
  dsimp only
  rw [if_neg h1]
  show ((flC c o).set 0 _, fileC c, false, (0 : Int)) = _
  unfold flC fileC
  simp
  omega
theorem close_out {c o : Nat} (ho : 2 ≤ o) : closeF (flC c o) 1 = (flC c (o - 1), ⟨3, 1, 0, 2, (o : Int)⟩, false, 0) := by
  unfold closeF
  rw [openO (by omega)]
  have h1 : ¬ ((o : Int) = 1) := by omega
  dsimp only
  rw [if_neg h1]
  show ((flC c o).set 1 _, _, false, (0 : Int)) = _
  have e : fileO (o - 1) = ⟨3, 1, 0, 2, ((o - 1 : Nat) : Int)⟩ := by unfold fileO; rw [if_neg (by omega)]
  unfold flC
  rw [e]
  simp
  omega
theorem close_last {c : Nat} : closeF (flC c 1) 1 = (flC c 0, ⟨3, 1, 0, 2, 1⟩, true, 0) := by
  unfold closeF
  rw [openO (Nat.le_refl 1)]
  rfl
theorem count_ends {c o : Nat} (hc : 1 ≤ c) : countF (flC c o) = if o = 0 then 1 else 2 := by
  have h1 : knownB (fileC c) = true := by unfold knownB fileC; simp; omega
  have h0 : knownB zeroF = false := by decide
  by_cases ho : o = 0
  · subst ho
    rw [if_pos rfl]
    have e : fileO 0 = zeroF := rfl
    unfold countF placesL flC
    rw [e]
    simp [List.range_succ, h1, h0]
  · rw [if_neg ho]
    have h2 : knownB (fileO o) = true := by unfold fileO knownB; rw [if_neg ho]; simp; omega
    unfold countF placesL flC
    simp [List.range_succ, h1, h0, h2]
theorem few_flC {c o : Nat} (hc : c ≤ 100) (ho : o ≤ 100) : FewRefs 1000 (flC c o) := by
  intro x hx
  unfold flC at hx
  simp only [List.mem_cons, List.not_mem_nil, or_false] at hx
  rcases hx with rfl | rfl | rfl | rfl | rfl | rfl | rfl | rfl
  · show 0 ≤ (c : Int) ∧ (c : Int) ≤ 1000; omega
  · unfold fileO
    split
    · exact ⟨by decide, by decide⟩
    · show 0 ≤ (o : Int) ∧ (o : Int) ≤ 1000; omega
  all_goals exact ⟨by decide, by decide⟩
theorem open_in : openF (List.replicate 8 zeroF) 2 1 1 = ([fileC 1, zeroF, zeroF, zeroF, zeroF, zeroF, zeroF, zeroF], 0, 0) := by decide
theorem open_out : openF [fileC 1, zeroF, zeroF, zeroF, zeroF, zeroF, zeroF, zeroF] 3 1 2 = (flC 1 1, 1, 0) := by decide
theorem put_in : putS (List.replicate 4 (-1)) 0 = ([0, -1, -1, -1], 0, 0) := by decide
theorem put_out : putS [0, -1, -1, -1] 1 = (setC true, 1, 0) := by decide
end Go.Proofs.Ytebkkbmplndcpaa
