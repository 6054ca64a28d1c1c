/- Which call has such a name. -/
import Derived.Test.YtebgejoemlgggaaDoorSplit4
namespace Go.Proofs.YtebgejoemlgggaaDoor
open Go.RowKit Go.Sort
set_option linter.unusedVariables false
set_option linter.unusedSimpArgs false
set_option maxRecDepth 100000

/-- The words in their box. -/
structure WordsAt (w : World) (b gw n N : Nat) (x0 : ByteArray) : Prop where
  box : w.heap[b]? = some (.cells #[.slice (some ⟨gw, 0, none⟩) n N] 91 (0, 0))
  first : w.cell? ⟨gw, 0, none⟩ = some (.string x0)
  lt : gw < w.heap.size
theorem WordsAt.below {w w' : World} {b gw n N : Nat} {x0 : ByteArray} (h : WordsAt w b gw n N x0) (k : Below w.heap.size w w') : WordsAt w' b gw n N x0 :=
  ⟨(k.block b (Array.getElem?_eq_some_iff.1 h.box).1).trans h.box, (k.cell (p := ⟨gw, 0, none⟩) h.lt).trans h.first, Nat.lt_of_lt_of_le h.lt k.size⟩
set_option maxHeartbeats 400000 in
theorem pclo_is (x1 x2 x0 : ByteArray) (b gw n N : Nat) (w : World) (hW : WordsAt w b gw n N x0) (hn : 0 < n) (hN : n ≤ N) (hN4 : N ≤ 4) :
    Calls Tryd.prog 52 #[.agg #[.string x1, .string x2], .pointer (some ⟨b, 0, none⟩)] w fun e w' => e = .returned (.bool (decide (x1.data.toList = x0.data.toList))) ∧ Below w.heap.size w w' := by
  have kx := below_box w (.cells #[.string x1, .string x2] 85)
  have nx := heap_alloc_new w (.cells #[.string x1, .string x2] 85)
  have hW2 := hW.below kx
  obtain ⟨w1, hw1⟩ : ∃ x, w.alloc (.cells #[.string x1, .string x2] 85) = x := ⟨_, rfl⟩
  rw [hw1] at kx nx hW2
  have c0 := cell_atB nx 0
  have c1 := cell_atB hW2.box 0
  have c2 := hW2.first
  have g0 : (0 : Int) < (n : Int) := by omega
  have g1 : (n : Int) ≤ 4 := by omega
  have KX := Lib.hid kx
  clear nx hW hW2 kx
  go_enter Tryd.func52, Tryd.ntmps52
  by_cases he : x1.data.toList = x0.data.toList
  · have HD : Hid (decide (x1.data.toList = x0.data.toList) = true) := Lib.hid (decide_eq_true he)
    have hb : (x1.toList == x0.toList) = true := by rw [toList_is he, toList_is (rfl : x0.data.toList = _)]; simp
    clear he
    go_wp2
    go_quiet (fail)
    go_wp2
    go_ret
    exact ⟨by rw [HD.out]; rfl, below_next KX.out (below_drewN w1 nq)⟩
  · have HD : Hid (decide (x1.data.toList = x0.data.toList) = false) := Lib.hid (decide_eq_false he)
    have hb : (x1.toList == x0.toList) = false := by rw [toList_is (rfl : x1.data.toList = _), toList_is (rfl : x0.data.toList = _)]; simpa using he
    clear he
    go_wp2
    go_quiet (fail)
    go_wp2
    go_ret
    exact ⟨by rw [HD.out]; rfl, below_next KX.out (below_drewN w1 nq)⟩
/-- Where a name is first; -1: nowhere. -/
def IdxIs (x0 : Bx) (r : Int) : Prop := (∃ (i : Nat) (p : Bx × Bx), r = (i : Int) ∧ shapesL[i]? = some p ∧ p.1 = x0 ∧ ∀ (j : Nat) (q : Bx × Bx), j < i → shapesL[j]? = some q → q.1 ≠ x0) ∨ (r = -1 ∧ ∀ (j : Nat) (q : Bx × Bx), shapesL[j]? = some q → q.1 ≠ x0)
set_option maxHeartbeats 800000 in
theorem pidx_is (x0 : ByteArray) (b gw n N : Nat) (w : World) (hv : VarsAt w) (hW : WordsAt w b gw n N x0) (hn : 0 < n) (hN : n ≤ N) (hN4 : N ≤ 4) :
    Calls Tryd.prog 51 #[.slice (some ⟨0, 0, none⟩) 30 30, .func (Fn.func 52) #[] #[.pointer (some ⟨b, 0, none⟩)]] w fun e w' => ∃ r, e = .returned (.int .i64 r) ∧ IdxIs x0.data.toList r ∧ Below w.heap.size w w' := by
  have HV := Lib.hid hv
  have HW := Lib.hid hW
  have HN := Lib.hid (And.intro hn (And.intro hN hN4))
  clear hv hW hn hN hN4
  go_enter Tryd.func51, Tryd.ntmps51
  go_wp2
  go_loopw [8] (fun i wr => ∃ k : Nat, i = .int .i64 (k : Int) ∧ k ≤ 30 ∧ Hid (Below w.heap.size w wr) ∧ Hid (∀ (j : Nat) (q : Bx × Bx), j < k → shapesL[j]? = some q → q.1 ≠ x0.data.toList)) (fun i _ => 30 - (intOf i).toNat)
  case atStart => exact ⟨0, rfl, by omega, Lib.hid (Below.refl _ _), Lib.hid (fun j q h => by omega)⟩
  case round =>
    obtain ⟨k, rfl, hk, HB, HNO⟩ := hrel
    by_cases hlt : k < 30
    · have hlt2 : (k : Int) < 30 := by omega
      have hk0 : (0 : Int) ≤ (k : Int) := by omega
      obtain ⟨p, hp, c0, c1⟩ := (HV.out.below HB.out).shape k hlt
      obtain ⟨q1, q2⟩ := p
      obtain ⟨x1, hx1⟩ : ∃ x, (⟨q1.toArray⟩ : ByteArray) = x := ⟨_, rfl⟩
      obtain ⟨x2, hx2⟩ : ∃ x, (⟨q2.toArray⟩ : ByteArray) = x := ⟨_, rfl⟩
      replace c0 : wr.cell? ⟨0, k * 2, none⟩ = some (.string x1) := by rw [← hx1]; exact c0
      replace c1 : wr.cell? ⟨0, k * 2 + 1, none⟩ = some (.string x2) := by rw [← hx2]; exact c1
      have hq1 : x1.data.toList = q1 := by rw [← hx1]
      have HC := Lib.hid (pclo_is x1 x2 x0 b gw n N wr (HW.out.below HB.out) HN.out.1 HN.out.2.1 HN.out.2.2)
      rw [hq1] at HC
      have HP := Lib.hid hp
      clear hp hx1 hx2 hq1
      by_cases he : q1 = x0.data.toList
      · rw [decide_eq_true he] at HC
        have HR : Hid (IdxIs x0.data.toList (k : Int)) := Lib.hid (.inl ⟨k, (q1, q2), rfl, HP.out, he, HNO.out⟩)
        clear he
        go_wp2_with fail
        refine HC.out.mono ?_
        rintro e w2 ⟨rfl, b2⟩
        go_wp2
        go_ret
        exact ⟨_, rfl, HR.out, below_next HB.out b2⟩
      · rw [decide_eq_false he] at HC
        have HN2 : Hid (∀ (j : Nat) (q : Bx × Bx), j < k + 1 → shapesL[j]? = some q → q.1 ≠ x0.data.toList) := Lib.hid (fun j q hj hq => by
          by_cases hjk : j = k
          · subst hjk
            rw [HP.out] at hq
            cases hq
            exact he
          · exact HNO.out j q (by omega) hq)
        clear he
        go_wp2_with fail
        refine HC.out.mono ?_
        rintro e w2 ⟨rfl, b2⟩
        have HB2 := Lib.hid (below_next HB.out b2)
        clear b2
        go_wp2
        go_roundw
        case rel => exact ⟨k + 1, by go_num, by omega, HB2, HN2⟩
        case measure => simp [intOf]; omega
    · obtain rfl : k = 30 := by omega
      have HR : Hid (IdxIs x0.data.toList (-1)) := Lib.hid (.inr ⟨rfl, fun j q hq => HNO.out j q (by have := (List.getElem?_eq_some_iff.1 hq).1; rw [shapesL_len] at this; exact this) hq⟩)
      go_wp2
      go_ret
      exact ⟨_, rfl, HR.out, HB.out⟩
end Go.Proofs.YtebgejoemlgggaaDoor
