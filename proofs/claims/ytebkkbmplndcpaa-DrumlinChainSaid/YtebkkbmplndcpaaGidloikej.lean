/- Processes: orphan, Exit, by their walks. -/
import Derived.Test.YtebkkbmplndcpaaGakjehkji
namespace Go.Proofs.Ytebkkbmplndcpaa
open Go.RowKit Go.Sort
set_option linter.unusedVariables false
set_option linter.unusedSimpArgs false
set_option maxRecDepth 100000

def orphP (n : Int) (s : ProcD) : ProcD := if s.parent = n then { s with parent := 1 } else s
def orphL (n : Int) (j : Nat) (l : List ProcD) : List ProcD := (l.take j).map (orphP n) ++ l.drop j
theorem orphL_zero (n : Int) (l : List ProcD) : orphL n 0 l = l := by unfold orphL; simp
theorem orphL_all (n : Int) (l : List ProcD) : orphL n l.length l = l.map (orphP n) := by unfold orphL; simp
theorem orphL_len (n : Int) (j : Nat) (l : List ProcD) : (orphL n j l).length = l.length := by unfold orphL; rw [List.length_append, List.length_map, List.length_take, List.length_drop]; omega
theorem orphL_get {n : Int} {j : Nat} {l : List ProcD} {s : ProcD} (h : l[j]? = some s) : (orphL n j l)[j]? = some s := by
  have hj := (List.getElem?_eq_some_iff.1 h).1
  unfold orphL
  rw [List.getElem?_append_right (by rw [List.length_map, List.length_take]; omega), List.length_map, List.length_take, Nat.min_eq_left (by omega), Nat.sub_self, List.getElem?_drop, Nat.add_zero]
  exact h
theorem orphL_set {n : Int} {j : Nat} {l : List ProcD} {s : ProcD} (h : l[j]? = some s) : (orphL n j l).set j (orphP n s) = orphL n (j + 1) l := by
  have hj := (List.getElem?_eq_some_iff.1 h).1
  have hlen : ((l.take j).map (orphP n)).length = j := by rw [List.length_map, List.length_take]; omega
  have hd : l.drop j = s :: l.drop (j + 1) := by rw [List.drop_eq_getElem_cons hj]; rw [List.getElem?_eq_getElem hj] at h; cases h; rfl
  unfold orphL
  rw [List.set_append_right _ _ (by omega), hlen, Nat.sub_self, hd, List.set_cons_zero, List.take_add_one, h, List.map_append, List.append_assoc]
  rfl
theorem orphL_same {n : Int} {j : Nat} {l : List ProcD} {s : ProcD} (h : l[j]? = some s) (hp : s.parent ≠ n) : orphL n j l = orphL n (j + 1) l := by
  rw [← orphL_set h]
  have : orphP n s = s := if_neg hp
  rw [this]
  apply List.ext_getElem?
  intro m
  by_cases hm : j = m
  · subst hm; rw [List.getElem?_set_self (by rw [orphL_len]; exact (List.getElem?_eq_some_iff.1 h).1), orphL_get h]
  · rw [List.getElem?_set_ne hm]
set_option maxHeartbeats 1600000 in
theorem torphan_is {B : Nat} {w : World} {g gs cap : Nat} {T : TabD} (h : IsTable B w g gs cap T) (n : Int) :
    Calls Try.prog 50 #[.pointer (some ⟨g, 0, none⟩), .int .i64 n] w fun e w' => e = .returned (.tuple #[]) ∧ IsTable B w' g gs cap { T with list := T.list.map (orphP n) } ∧ w.grownBy w' (some gs) := by
  obtain ⟨_, _, _, c3⟩ := table_facts h
  obtain ⟨L, hL⟩ : ∃ x, T.list.length = x := ⟨_, rfl⟩
  have hL16 : L ≤ 16 := by rw [← hL]; exact h.2.2.2.2.2.2.1
  have H := Lib.hid h
  have HL := Lib.hid hL
  rw [hL] at c3
  clear h hL
  go_enter Try.func50, Try.ntmps50
  go_wp2_with fail
  go_loopw [4, 10] (fun _ i wr => ∃ j : Nat, i = .int .i64 (j : Int) ∧ j ≤ L ∧ Hid (IsTable B wr g gs cap { T with list := orphL n j T.list }) ∧ Hid (w.grownBy wr (some gs))) (fun _ i _ => 20 - (intOf i).toNat)
  case atStart => exact ⟨0, rfl, Nat.zero_le _, Lib.hid (by rw [orphL_zero]; exact H.out), Lib.hid (grown_same _ _)⟩
  case round =>
    obtain ⟨j, rfl, hj, HT, HG⟩ := hrel
    clear c3
    by_cases hlt : j < L
    · obtain ⟨s, hs⟩ : ∃ x, T.list[j]? = some x := ⟨_, List.getElem?_eq_getElem (by rw [HL.out]; exact hlt)⟩
      have hg9 : (orphL n j T.list)[j]? = some s := orphL_get hs
      obtain ⟨r0, r1, r2, r3, r4, r5⟩ := table_row HT.out hg9
      have c3 := (table_facts HT.out).2.2.2
      have f1 := table_free HT.out (j * 6 + 1)
      have hlen9 : (orphL n j T.list).length = L := by rw [orphL_len]; exact HL.out
      dsimp only at c3
      rw [hlen9] at c3
      have hx0 : (0 : Int) ≤ (j : Int) := by omega
      have hx1 : (j : Int) < (L : Int) := by omega
      have HLT := Lib.hid hlt
      obtain ⟨pa, hpa⟩ : ∃ x, s.parent = x := ⟨_, rfl⟩
      rw [hpa] at r1
      by_cases hp : pa = n
      · have hq : (pa == n) = true := by simpa using hp
        have hs1 := table_store (j := 1) HT.out hg9 (by decide) (.int .i64 1) (s' := orphP n s) (by unfold orphP; rw [if_pos (hpa.trans hp)]; rfl)
        dsimp only at hs1
        rw [orphL_set hs] at hs1
        obtain ⟨w5, hw5⟩ : ∃ x, wr.setCell ⟨gs, j * 6 + 1, none⟩ (.int .i64 1) = x := ⟨_, rfl⟩
        rw [hw5] at hs1
        have HT5 := Lib.hid hs1.1
        have HG5 := Lib.hid (grown_transT HG.out hs1.2)
        clear hp hs hg9 hpa hs1 hlen9 hlt r0 r2 r3 r4 r5
        go_wp2
        try rw [hw5]
        have h1 := HLT.out
        go_roundw
        case rel => exact ⟨j + 1, by go_num, h1, HT5, HG5⟩
        case measure => simp [intOf]; omega
      · have hq : (pa == n) = false := by simpa using hp
        have HT5 : Hid (IsTable B wr g gs cap { T with list := orphL n (j + 1) T.list }) := Lib.hid (by rw [← orphL_same hs (by rw [hpa]; exact hp)]; exact HT.out)
        clear hp hs hg9 hpa hlen9 hlt r0 r2 r3 r4 r5 f1
        go_wp2
        have h1 := HLT.out
        go_roundw
        case rel => exact ⟨j + 1, by go_num, h1, HT5, HG⟩
        case measure => simp [intOf]; omega
    · have hjl : j = L := Nat.le_antisymm hj (Nat.le_of_not_lt hlt)
      subst hjl
      have hx1 : ¬ (j : Int) < (j : Int) := Int.lt_irrefl _
      have HT9 : Hid (IsTable B wr g gs cap { T with list := T.list.map (orphP n) }) := Lib.hid (by have := HT.out; rw [← HL.out, orphL_all] at this; exact this)
      clear hlt
      go_wp2
      go_end0
      exact ⟨rfl, HT9.out, HG.out⟩
def zomB (u : ProcD) : Bool := decide (u.state = 3) && decide (u.parent = 1)
theorem enters_exit1 (args : Array Value) (w : World) : (callFunc 52 args).run Try.prog w = .ok (.enter 52 args) w := enters_of Try.func52 (by kernel_rfl) rfl args w
set_option maxHeartbeats 1600000 in
theorem zom_is (W : World) (s : ProcD) : Calls Try.prog 52 (#[.agg (procV s).toArray] ++ #[]) W fun e w' => e = .returned (.bool (zomB s)) ∧ Below W.heap.size W w' := by
  have b0 := below_box W (.cells #[.int .i64 s.pid, .int .i64 s.parent, .int .i64 s.state, .int .i64 s.code, .int .i64 s.til, .bool s.killed] 40)
  have n0 := heap_alloc_new W (.cells #[.int .i64 s.pid, .int .i64 s.parent, .int .i64 s.state, .int .i64 s.code, .int .i64 s.til, .bool s.killed] 40)
  obtain ⟨W1, hW1⟩ : ∃ x, W.alloc (.cells #[.int .i64 s.pid, .int .i64 s.parent, .int .i64 s.state, .int .i64 s.code, .int .i64 s.til, .bool s.killed] 40) = x := ⟨_, rfl⟩
  rw [hW1] at b0 n0
  have x1 := cell_atT n0 1
  have x2 := cell_atT n0 2
  have HB0 := Lib.hid b0
  clear n0 b0
  obtain ⟨st, hst⟩ : ∃ x, s.state = x := ⟨_, rfl⟩
  obtain ⟨pa, hpa⟩ : ∃ x, s.parent = x := ⟨_, rfl⟩
  show Calls Try.prog 52 #[.agg #[.int .i64 s.pid, .int .i64 s.parent, .int .i64 s.state, .int .i64 s.code, .int .i64 s.til, .bool s.killed]] W fun e w' => e = .returned (.bool (decide (s.state = 3) && decide (s.parent = 1))) ∧ Below W.heap.size W w'
  rw [hst, hpa] at hW1 ⊢
  have x1' : W1.cell? ⟨W.heap.size, 1, none⟩ = some (.int .i64 pa) := by rw [← hpa]; exact x1
  have x2' : W1.cell? ⟨W.heap.size, 2, none⟩ = some (.int .i64 st) := by rw [← hst]; exact x2
  clear x1 x2 hst hpa
  by_cases a1 : st = 3
  · have q1 : (st == 3) = true := by simpa using a1
    rw [decide_eq_true a1, Bool.true_and, ← beq_dec]
    clear a1
    go_enter Try.func52, Try.ntmps52
    go_wp2
    go_ret
    exact ⟨rfl, HB0.out⟩
  · have q1 : (st == 3) = false := by simpa using a1
    rw [decide_eq_false a1, Bool.false_and]
    clear a1
    go_enter Try.func52, Try.ntmps52
    go_wp2
    go_ret
    exact ⟨rfl, HB0.out⟩
end Go.Proofs.Ytebkkbmplndcpaa
