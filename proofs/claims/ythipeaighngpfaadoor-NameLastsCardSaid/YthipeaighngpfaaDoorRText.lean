/- A path's text by the document's walk; two paths compared; a path told. -/
import Derived.Test.YthipeaighngpfaaDoorPText
import Derived.Deep.QuietTactic
import Derived.BigQuiet
namespace Go.Proofs.YthipeaighngpfaaDoor
open Go.RowKit Go.Sort
set_option linter.unusedVariables false
set_option linter.unusedSimpArgs false
set_option maxRecDepth 100000

def preL (ab : Bool) : Bs := if ab then [47] else []
theorem absT_pre (ab : Bool) (Q : List Bs) : absT ab Q = preL ab ++ joinS Q := by cases ab <;> rfl
theorem joinS_take {Q : List Bs} {i : Nat} {p : Bs} (h : Q[i]? = some p) : joinS (Q.take (i + 1)) = if i = 0 then p else joinS (Q.take i) ++ 47 :: p := by
  have hlt := (List.getElem?_eq_some_iff.1 h).1
  have e : Q.take (i + 1) = Q.take i ++ [p] := by rw [List.take_add_one, h]; rfl
  by_cases h0 : i = 0
  · subst h0; rw [e]; simp [joinS]
  · rw [if_neg h0, e]
    refine joinS_snoc _ _ ?_
    intro hh
    have := congrArg List.length hh
    rw [List.length_take, List.length_nil] at this
    omega
theorem joinS_take_le (Q : List Bs) (i : Nat) : (joinS (Q.take i)).length ≤ weighL Q := by
  have h1 := weighL_sub (List.take_sublist i Q)
  by_cases h0 : Q.take i = []
  · rw [h0]; exact Nat.zero_le _
  · have := joinS_length _ h0; omega
theorem str_data (x : ByteArray) {l : Bs} (h : x.data.toList = l) : strV l = .string x := by rw [← h]; exact strV_of x
theorem cat_data {x y : ByteArray} {l m : Bs} (h : x.data.toList = l) (k : y.data.toList = m) : (x ++ y).data.toList = l ++ m := by
  rw [ByteArray.data_append, Array.toList_append, h, k]

set_option maxHeartbeats 6400000 in
theorem rtext_is (ab di : Bool) (a : Option Addr) (cp : Nat) (Q : List Bs) (w : World) (hr : ReadsV w a Q.length (strsV Q)) (hw : weighL Q ≤ 1000) :
    Calls Tryd.prog 34 #[.agg #[.bool ab, .bool di, .slice a Q.length cp]] w fun e w' => e = .returned (strV (rtextL ab di Q)) ∧ Below w.heap.size w w' := by
  have fin : ∀ (v : Value), strV (rtextL ab di Q) = v → Ending.returned v = .returned (strV (rtextL ab di Q)) ∧ Below w.heap.size w (w.alloc (.cells #[.bool ab, .bool di, .slice a Q.length cp] 60)) := fun v h1 => ⟨by rw [h1], below_box w _⟩
  have HFIN := Lib.hid fin
  have hql : ∀ P : List Bs, P.length ≤ weighL P := by
    intro P; induction P with
    | nil => exact Nat.le_refl _
    | cons q P ih => rw [weighL_cons, List.length_cons]; omega
  have hq : Q.length ≤ 1000 := Nat.le_trans (hql Q) hw
  obtain ⟨n, hn⟩ : ∃ n, Q.length = n := ⟨_, rfl⟩
  have HR : Hid (∀ k p, Q[k]? = some p → ∃ g off, a = some ⟨g, off, none⟩ ∧ g < w.heap.size ∧ w.cell? ⟨g, off + k, none⟩ = some (strV p)) := fun k p hk => hr.at (strsV_get hk)
  have HW := Lib.hid hw
  have HN := Lib.hid hn
  rw [hn] at hq HFIN ⊢
  clear fin hql hr hw hn
  obtain ⟨Pre, hpre⟩ : ∃ P, preL ab = P := ⟨_, rfl⟩
  have hprel : Pre.length ≤ 1 := by rw [← hpre]; cases ab <;> decide
  have HPRE := Lib.hid hpre
  obtain ⟨y0, hy0⟩ : ∃ y0 : ByteArray, y0 = ⟨(preL ab).toArray⟩ := ⟨_, rfl⟩
  have hy0l : y0.data.toList = Pre := by rw [hy0, ← hpre]
  have HY0 := Lib.hid hy0l
  have hab : (ab = true ∧ y0 = ⟨#[47]⟩) ∨ (ab = false ∧ y0 = ⟨#[]⟩) := by cases ab <;> simp [hy0, preL]
  clear hy0 hy0l hpre
  rcases hab with ⟨rfl, rfl⟩ | ⟨rfl, rfl⟩
  · skip
    go_enter Tryd.func34, Tryd.ntmps34
    go_wp2
    go_loop [3, 4] (fun vs vi => ∃ (i : Nat) (y : ByteArray), i ≤ n ∧ vi = .int .i64 i ∧ vs = .string y ∧ y.data.toList = Pre ++ joinS (Q.take i)) (fun _ vi => n - (intOf vi).toNat)
    case atStart => exact ⟨0, _, Nat.zero_le _, rfl, rfl, by rw [HY0.out]; simp [joinS]⟩
    case round =>
      obtain ⟨i, y, hi, rfl, rfl, hy⟩ := hrel
      have HY := Lib.hid hy
      have hys : y.size ≤ 1001 := by
        have h1 := joinS_take_le Q i
        have h2 := HW.out
        rw [Lib.size_eq, hy, List.length_append]
        omega
      clear hy
      by_cases hlt : i < n
      · obtain ⟨p, hp⟩ : ∃ p, Q[i]? = some p := ⟨_, List.getElem?_eq_getElem (by have := HN.out; omega)⟩
        obtain ⟨g, off, rfl, hg, hc⟩ := HR.out i p hp
        obtain ⟨x, hx⟩ : ∃ x : ByteArray, x = ⟨p.toArray⟩ := ⟨_, rfl⟩
        have hxl : x.data.toList = p := by rw [hx]
        have hcell : w.cell? ⟨g, off + i, none⟩ = some (.string x) := by rw [hc, hx]; rfl
        have hxs : x.size ≤ 1000 := by
          have h2 := HW.out
          have h3 : weighL [p] ≤ weighL Q := weighL_sub (List.singleton_sublist.2 (List.mem_of_getElem? hp))
          rw [weighL_cons, weighL_nil] at h3
          rw [Lib.size_eq, hxl]; omega
        have hlt2 : (i : Int) < (n : Int) := by omega
        have hjt := joinS_take hp
        have HXL := Lib.hid hxl
        have HJT := Lib.hid hjt
        clear hp hx hxl hc hjt
        by_cases h0 : i = 0
        · subst h0
          rw [Nat.add_zero] at hcell
          obtain ⟨y3, hy3⟩ : ∃ y3 : ByteArray, y ++ x = y3 := ⟨_, rfl⟩
          have hy3l : Hid (y3.data.toList = Pre ++ joinS (Q.take (0 + 1))) := by
            show _ = _
            rw [← hy3, cat_data HY.out HXL.out, HJT.out]
            simp [joinS]
          go_wp2
          go_round
          case rel => exact ⟨0 + 1, y3, by omega, rfl, rfl, hy3l.out⟩
          case measure => simp [intOf]; omega
        · obtain ⟨y2, hy2⟩ : ∃ y2 : ByteArray, y ++ ⟨#[47]⟩ = y2 := ⟨_, rfl⟩
          obtain ⟨y3, hy3⟩ : ∃ y3 : ByteArray, y2 ++ x = y3 := ⟨_, rfl⟩
          have hy2s : y2.size = y.size + 1 := by rw [← hy2, ByteArray.size_append]; rfl
          have hy2b : y2.size ≤ 1002 := by omega
          have e47 : (⟨#[47]⟩ : ByteArray).data.toList = [47] := rfl
          have hy3l : Hid (y3.data.toList = Pre ++ joinS (Q.take (i + 1))) := by
            show _ = _
            rw [← hy3, ← hy2, cat_data (cat_data HY.out e47) HXL.out, HJT.out, if_neg h0]
            simp
          have hpos : (0 : Int) < (i : Int) := by omega
          clear hy2s e47 h0
          go_wp2
          go_round
          case rel => exact ⟨i + 1, y3, by omega, by go_num, rfl, hy3l.out⟩
          case measure => simp [intOf]; omega
      · skip
        have hall : Q.take i = Q := List.take_of_length_le (by have := HN.out; omega)
        have hyT : y.data.toList = absT true Q := by rw [HY.out, hall, ← HPRE.out, absT_pre]
        have hyv := str_data y hyT
        have HYV := Lib.hid hyv
        have hytt := txt_tests hyT
        have hge : ¬ ((i : Int) < (n : Int)) := by omega
        have hin : i = n := by omega
        clear hall hyv hlt
        by_cases hT : y.toList = []
        · have hT2 : y.toList.isEmpty = true := by rw [hT]; rfl
          have E : Hid (strV (rtextL true di Q) = .string ⟨#[46]⟩) := by
            show _ = _
            unfold rtextL
            rw [if_pos (by rw [← hytt]; exact hT)]; rfl
          clear hytt hyT
          go_wp2
          go_ret
          exact HFIN.out _ E.out
        · have hT2 : y.toList.isEmpty = false := by cases h : y.toList with | nil => exact absurd h hT | cons => rfl
          have hTT : absT true Q ≠ [] := by rw [← hytt]; exact hT
          have HTT := Lib.hid hTT
          clear hytt hyT hTT
          by_cases hQ : Q = []
          · have hn0 : n = 0 := by have := HN.out; rw [hQ] at this; simp at this; omega
            have hng : ¬ (0 : Int) < (n : Int) := by omega
            have E : Hid (strV (rtextL true di Q) = .string y) := by
              show _ = _
              unfold rtextL
              rw [if_neg HTT.out, if_neg (fun h => h.1 hQ)]; exact HYV.out
            clear hQ hn0 hin
            go_wp2
            go_ret
            exact HFIN.out _ E.out
          · have hng : (0 : Int) < (n : Int) := by have := HN.out; cases Q with | nil => exact absurd rfl hQ | cons => simp at this; omega
            cases di with
            | false =>
              have E : Hid (strV (rtextL true false Q) = .string y) := by
                show _ = _
                unfold rtextL
                rw [if_neg HTT.out, if_neg (fun h => by cases h.2.1)]; exact HYV.out
              clear hQ hin
              go_wp2
              go_ret
              exact HFIN.out _ E.out
            | true =>
              obtain ⟨D, p, hD⟩ := last_split hQ
              obtain ⟨M, hM⟩ : ∃ M, D.length = M := ⟨_, rfl⟩
              have hl : n = M + 1 := by have := HN.out; rw [← this, hD, List.length_append, hM]; rfl
              have hget : Q[M]? = some p := by rw [hD, ← hM]; simp
              obtain ⟨x, hx⟩ : ∃ x : ByteArray, x = ⟨p.toArray⟩ := ⟨_, rfl⟩
              have hxl : x.data.toList = p := by rw [hx]
              obtain ⟨g, off, ha, hg, hc⟩ := HR.out M p hget
              have hcell : w.cell? ⟨g, off + M, none⟩ = some (.string x) := by rw [hc, hx]; rfl
              have hxt := txt_tests hxl
              have hE : endsUp Q = (x.toList == [46, 46]) := by
                rw [hxt]; unfold endsUp; rw [hD]; simp
              have hm1 : (n : Int) - 1 = (M : Int) := by omega
              have hMn : M < n := by omega
              have HQ := Lib.hid hQ
              have HE := Lib.hid hE
              subst ha
              clear hl hD hM hget hx hxl hc hxt hE hin hQ
              cases hb : (x.toList == [46, 46]) with
              | true =>
                have hb2 : (x.toList != [46, 46]) = false := by unfold bne; rw [hb]; rfl
                have E : Hid (strV (rtextL true true Q) = .string y) := by
                  show _ = _
                  unfold rtextL
                  rw [if_neg HTT.out, if_neg (fun h => by have := h.2.2; rw [HE.out, hb] at this; cases this)]; exact HYV.out
                go_wp2
                go_ret
                exact HFIN.out _ E.out
              | false =>
                have hb2 : (x.toList != [46, 46]) = true := by unfold bne; rw [hb]; rfl
                obtain ⟨z, hz⟩ : ∃ z : ByteArray, y ++ ⟨#[47]⟩ = z := ⟨_, rfl⟩
                have E : Hid (strV (rtextL true true Q) = .string z) := by
                  show _ = _
                  unfold rtextL
                  rw [if_neg HTT.out, if_pos ⟨HQ.out, rfl, by rw [HE.out]; exact hb⟩, ← hz]
                  refine str_data _ ?_
                  have e47 : (⟨#[47]⟩ : ByteArray).data.toList = [47] := rfl
                  have e1 : y.data.toList = absT true Q := by
                    have h1 := HYV.out
                    have h2 := congrArg (fun v => match v with | Value.string q => q.data.toList | _ => []) h1
                    exact h2.symm
                  exact cat_data e1 e47
                go_wp2
                go_ret
                exact HFIN.out _ E.out
  · skip
    go_enter Tryd.func34, Tryd.ntmps34
    go_wp2
    go_loop [3, 4] (fun vs vi => ∃ (i : Nat) (y : ByteArray), i ≤ n ∧ vi = .int .i64 i ∧ vs = .string y ∧ y.data.toList = Pre ++ joinS (Q.take i)) (fun _ vi => n - (intOf vi).toNat)
    case atStart => exact ⟨0, _, Nat.zero_le _, rfl, rfl, by rw [HY0.out]; simp [joinS]⟩
    case round =>
      obtain ⟨i, y, hi, rfl, rfl, hy⟩ := hrel
      have HY := Lib.hid hy
      have hys : y.size ≤ 1001 := by
        have h1 := joinS_take_le Q i
        have h2 := HW.out
        rw [Lib.size_eq, hy, List.length_append]
        omega
      clear hy
      by_cases hlt : i < n
      · obtain ⟨p, hp⟩ : ∃ p, Q[i]? = some p := ⟨_, List.getElem?_eq_getElem (by have := HN.out; omega)⟩
        obtain ⟨g, off, rfl, hg, hc⟩ := HR.out i p hp
        obtain ⟨x, hx⟩ : ∃ x : ByteArray, x = ⟨p.toArray⟩ := ⟨_, rfl⟩
        have hxl : x.data.toList = p := by rw [hx]
        have hcell : w.cell? ⟨g, off + i, none⟩ = some (.string x) := by rw [hc, hx]; rfl
        have hxs : x.size ≤ 1000 := by
          have h2 := HW.out
          have h3 : weighL [p] ≤ weighL Q := weighL_sub (List.singleton_sublist.2 (List.mem_of_getElem? hp))
          rw [weighL_cons, weighL_nil] at h3
          rw [Lib.size_eq, hxl]; omega
        have hlt2 : (i : Int) < (n : Int) := by omega
        have hjt := joinS_take hp
        have HXL := Lib.hid hxl
        have HJT := Lib.hid hjt
        clear hp hx hxl hc hjt
        by_cases h0 : i = 0
        · subst h0
          rw [Nat.add_zero] at hcell
          obtain ⟨y3, hy3⟩ : ∃ y3 : ByteArray, y ++ x = y3 := ⟨_, rfl⟩
          have hy3l : Hid (y3.data.toList = Pre ++ joinS (Q.take (0 + 1))) := by
            show _ = _
            rw [← hy3, cat_data HY.out HXL.out, HJT.out]
            simp [joinS]
          go_wp2
          go_round
          case rel => exact ⟨0 + 1, y3, by omega, rfl, rfl, hy3l.out⟩
          case measure => simp [intOf]; omega
        · obtain ⟨y2, hy2⟩ : ∃ y2 : ByteArray, y ++ ⟨#[47]⟩ = y2 := ⟨_, rfl⟩
          obtain ⟨y3, hy3⟩ : ∃ y3 : ByteArray, y2 ++ x = y3 := ⟨_, rfl⟩
          have hy2s : y2.size = y.size + 1 := by rw [← hy2, ByteArray.size_append]; rfl
          have hy2b : y2.size ≤ 1002 := by omega
          have e47 : (⟨#[47]⟩ : ByteArray).data.toList = [47] := rfl
          have hy3l : Hid (y3.data.toList = Pre ++ joinS (Q.take (i + 1))) := by
            show _ = _
            rw [← hy3, ← hy2, cat_data (cat_data HY.out e47) HXL.out, HJT.out, if_neg h0]
            simp
          have hpos : (0 : Int) < (i : Int) := by omega
          clear hy2s e47 h0
          go_wp2
          go_round
          case rel => exact ⟨i + 1, y3, by omega, by go_num, rfl, hy3l.out⟩
          case measure => simp [intOf]; omega
      · skip
        have hall : Q.take i = Q := List.take_of_length_le (by have := HN.out; omega)
        have hyT : y.data.toList = absT false Q := by rw [HY.out, hall, ← HPRE.out, absT_pre]
        have hyv := str_data y hyT
        have HYV := Lib.hid hyv
        have hytt := txt_tests hyT
        have hge : ¬ ((i : Int) < (n : Int)) := by omega
        have hin : i = n := by omega
        clear hall hyv hlt
        by_cases hT : y.toList = []
        · have hT2 : y.toList.isEmpty = true := by rw [hT]; rfl
          have E : Hid (strV (rtextL false di Q) = .string ⟨#[46]⟩) := by
            show _ = _
            unfold rtextL
            rw [if_pos (by rw [← hytt]; exact hT)]; rfl
          clear hytt hyT
          go_wp2
          go_ret
          exact HFIN.out _ E.out
        · have hT2 : y.toList.isEmpty = false := by cases h : y.toList with | nil => exact absurd h hT | cons => rfl
          have hTT : absT false Q ≠ [] := by rw [← hytt]; exact hT
          have HTT := Lib.hid hTT
          clear hytt hyT hTT
          by_cases hQ : Q = []
          · have hn0 : n = 0 := by have := HN.out; rw [hQ] at this; simp at this; omega
            have hng : ¬ (0 : Int) < (n : Int) := by omega
            have E : Hid (strV (rtextL false di Q) = .string y) := by
              show _ = _
              unfold rtextL
              rw [if_neg HTT.out, if_neg (fun h => h.1 hQ)]; exact HYV.out
            clear hQ hn0 hin
            go_wp2
            go_ret
            exact HFIN.out _ E.out
          · have hng : (0 : Int) < (n : Int) := by have := HN.out; cases Q with | nil => exact absurd rfl hQ | cons => simp at this; omega
            cases di with
            | false =>
              have E : Hid (strV (rtextL false false Q) = .string y) := by
                show _ = _
                unfold rtextL
                rw [if_neg HTT.out, if_neg (fun h => by cases h.2.1)]; exact HYV.out
              clear hQ hin
              go_wp2
              go_ret
              exact HFIN.out _ E.out
            | true =>
              obtain ⟨D, p, hD⟩ := last_split hQ
              obtain ⟨M, hM⟩ : ∃ M, D.length = M := ⟨_, rfl⟩
              have hl : n = M + 1 := by have := HN.out; rw [← this, hD, List.length_append, hM]; rfl
              have hget : Q[M]? = some p := by rw [hD, ← hM]; simp
              obtain ⟨x, hx⟩ : ∃ x : ByteArray, x = ⟨p.toArray⟩ := ⟨_, rfl⟩
              have hxl : x.data.toList = p := by rw [hx]
              obtain ⟨g, off, ha, hg, hc⟩ := HR.out M p hget
              have hcell : w.cell? ⟨g, off + M, none⟩ = some (.string x) := by rw [hc, hx]; rfl
              have hxt := txt_tests hxl
              have hE : endsUp Q = (x.toList == [46, 46]) := by
                rw [hxt]; unfold endsUp; rw [hD]; simp
              have hm1 : (n : Int) - 1 = (M : Int) := by omega
              have hMn : M < n := by omega
              have HQ := Lib.hid hQ
              have HE := Lib.hid hE
              subst ha
              clear hl hD hM hget hx hxl hc hxt hE hin hQ
              cases hb : (x.toList == [46, 46]) with
              | true =>
                have hb2 : (x.toList != [46, 46]) = false := by unfold bne; rw [hb]; rfl
                have E : Hid (strV (rtextL false true Q) = .string y) := by
                  show _ = _
                  unfold rtextL
                  rw [if_neg HTT.out, if_neg (fun h => by have := h.2.2; rw [HE.out, hb] at this; cases this)]; exact HYV.out
                go_wp2
                go_ret
                exact HFIN.out _ E.out
              | false =>
                have hb2 : (x.toList != [46, 46]) = true := by unfold bne; rw [hb]; rfl
                obtain ⟨z, hz⟩ : ∃ z : ByteArray, y ++ ⟨#[47]⟩ = z := ⟨_, rfl⟩
                have E : Hid (strV (rtextL false true Q) = .string z) := by
                  show _ = _
                  unfold rtextL
                  rw [if_neg HTT.out, if_pos ⟨HQ.out, rfl, by rw [HE.out]; exact hb⟩, ← hz]
                  refine str_data _ ?_
                  have e47 : (⟨#[47]⟩ : ByteArray).data.toList = [47] := rfl
                  have e1 : y.data.toList = absT false Q := by
                    have h1 := HYV.out
                    have h2 := congrArg (fun v => match v with | Value.string q => q.data.toList | _ => []) h1
                    exact h2.symm
                  exact cat_data e1 e47
                go_wp2
                go_ret
                exact HFIN.out _ E.out
end Go.Proofs.YthipeaighngpfaaDoor
