/- A path's text by the document's walk; two paths compared; a path told. -/
import Derived.Test.YtpnafikmbbnecaaDoorPText
import Derived.Deep.QuietTactic
import Derived.BigQuiet
namespace Go.Proofs.YtpnafikmbbnecaaDoor
open Go.RowKit Go.Sort
set_option linter.unusedVariables false
set_option linter.unusedSimpArgs false
set_option maxRecDepth 100000

def preL (ab : Bool) : Bs := if ab then [47] else []
theorem absT_pre (ab : Bool) (Q : List Bs) : absT ab Q = preL ab ++ joinS Q := by cases ab <;> rfl
theorem joinS_take {Q : List Bs} {i : Nat} {p : Bs} (h : Q[i]? = some p) : joinS (Q.take (i + 1)) = if i = 0 then p else joinS (Q.take i) ++ 47 :: p := by
  have hlt := (List.getElem?_eq_some_iff.1 h).1
  have e : Q.take (i + 1) = Q.take i ++ [p] := by rw [List.take_add_one, h]; rfl
  by_cases h0 : i = 0
  · subst h0; rw [e]; simp [joinS]
  · rw [if_neg h0, e]
    refine joinS_snoc _ _ ?_
    intro hh
    have := congrArg List.length hh
    rw [List.length_take, List.length_nil] at this
    omega
theorem joinS_take_le (Q : List Bs) (i : Nat) : (joinS (Q.take i)).length ≤ weighL Q := by
  have h1 := weighL_sub (List.take_sublist i Q)
  by_cases h0 : Q.take i = []
  · rw [h0]; exact Nat.zero_le _
  · have := joinS_length _ h0; omega
theorem str_data (x : ByteArray) {l : Bs} (h : x.data.toList = l) : strV l = .string x := by rw [← h]; exact strV_of x
theorem cat_data {x y : ByteArray} {l m : Bs} (h : x.data.toList = l) (k : y.data.toList = m) : (x ++ y).data.toList = l ++ m := by
  rw [ByteArray.data_append, Array.toList_append, h, k]

end Go.Proofs.YtpnafikmbbnecaaDoor
