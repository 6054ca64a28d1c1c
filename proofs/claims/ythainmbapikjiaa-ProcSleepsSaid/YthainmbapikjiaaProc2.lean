/- Processes: live, mortal, Live, Get, Now, those, Pids, Children, by their walks. -/
import Derived.Test.YthainmbapikjiaaProc1
import Derived.BigQuiet
import Derived.Deep.MidRow
import Derived.Deep.QuietTactic
namespace Go.Proofs.Ythainmbapikjiaa
open Go.RowKit Go.Sort
set_option linter.unusedVariables false
set_option linter.unusedSimpArgs false
set_option maxRecDepth 100000

/-- One that is found: where, and what it is. -/
def Found (T : TabD) (n : Int) (i : Nat) (s : ProcD) : Prop := findI T.list n = (i : Int) ∧ T.list[i]? = some s
theorem firstT_or {α : Type} (p : α → Bool) (l : List α) : (firstI p l = -1 ∧ ∀ s ∈ l, p s = false) ∨ ∃ (i : Nat) (s : α), firstI p l = (i : Int) ∧ l[i]? = some s ∧ p s = true ∧ ∀ (j : Nat) (t : α), j < i → l[j]? = some t → p t = false := by
  have key : ∀ k, k ≤ l.length → (placesL p l k = [] ∧ ∀ (j : Nat) (t : α), j < k → l[j]? = some t → p t = false) ∨ ∃ (i : Nat) (s : α), firstI p l = (i : Int) ∧ l[i]? = some s ∧ p s = true ∧ ∀ (j : Nat) (t : α), j < i → l[j]? = some t → p t = false := by
    intro k
    induction k with
    | zero => intro _; exact .inl ⟨rfl, fun j t hj => absurd hj (Nat.not_lt_zero _)⟩
    | succ k ih =>
      intro hk
      rcases ih (by omega) with ⟨h1, h2⟩ | h
      · obtain ⟨s, hs⟩ : ∃ s, l[k]? = some s := ⟨_, List.getElem?_eq_getElem (by omega)⟩
        cases hp : p s with
        | true => exact .inr ⟨k, s, firstI_hit h1 hs hp, hs, hp, h2⟩
        | false =>
          refine .inl ⟨(placesL_no hs hp).trans h1, fun j t hj ht => ?_⟩
          by_cases e : j = k
          · subst e; rw [hs] at ht; cases ht; exact hp
          · exact h2 j t (by omega) ht
      · exact .inr h
  rcases key l.length (Nat.le_refl _) with ⟨h1, h2⟩ | h
  · refine .inl ⟨by unfold firstI; rw [h1], fun s hs => ?_⟩
    obtain ⟨j, hj⟩ := List.mem_iff_getElem?.1 hs
    exact h2 j s (List.getElem?_eq_some_iff.1 hj).1 hj
  · exact .inr h
theorem found_or (T : TabD) (n : Int) : (findI T.list n = -1 ∧ ∀ s ∈ T.list, s.pid ≠ n) ∨ ∃ i s, Found T n i s ∧ s.pid = n ∧ ∀ (j : Nat) (t : ProcD), j < i → T.list[j]? = some t → t.pid ≠ n := by
  rcases firstT_or (pidB n) T.list with ⟨h1, h2⟩ | ⟨i, s, h1, h2, h3, h4⟩
  · exact .inl ⟨h1, fun s hs => of_decide_eq_false (h2 s hs)⟩
  · exact .inr ⟨i, s, ⟨h1, h2⟩, of_decide_eq_true h3, fun j t hj ht => of_decide_eq_false (h4 j t hj ht)⟩
/-- There is none that lives. -/
def Gone (T : TabD) (n : Int) : Prop := findI T.list n = -1 ∨ ∃ i s, Found T n i s ∧ s.state = 3
theorem gone_or (T : TabD) (n : Int) : Gone T n ∨ ∃ i s, Found T n i s ∧ s.state ≠ 3 := by
  rcases found_or T n with ⟨h, _⟩ | ⟨i, s, h, _⟩
  · exact .inl (.inl h)
  · by_cases hs : s.state = 3
    · exact .inl (.inr ⟨i, s, h, hs⟩)
    · exact .inr ⟨i, s, h, hs⟩
set_option maxHeartbeats 1600000 in
theorem tlive_yes {B : Nat} {w : World} {g gs cap : Nat} {T : TabD} (h : IsTable B w g gs cap T) {n : Int} {i : Nat} {s : ProcD} (hf : Found T n i s) (hs : s.state ≠ 3) :
    Calls Try.prog 93 #[.pointer (some ⟨g, 0, none⟩), .int .i64 n] w fun e w' => e = .returned (.tuple #[.pointer (some ⟨gs, i * 6, none⟩), .int .i64 0]) ∧ Below w.heap.size w w' := by
  have HF := Lib.hid (tfind_yes h n i s hf.1 hf.2)
  have HR := Lib.hid (fun (W : World) (hW : Below w.heap.size w W) => (table_row (h.below hW) hf.2).2.2.1)
  have hq : (s.state == 3) = false := by simpa using hs
  obtain ⟨x, hx⟩ : ∃ x, s.state = x := ⟨_, rfl⟩
  rw [hx] at HR hq
  clear h hf hs hx
  go_enter Try.func93, Try.ntmps93
  go_wp2_with fail
  refine HF.out.mono ?_
  rintro e w1 ⟨rfl, b1⟩
  have r2 := HR.out w1 b1
  have HB := Lib.hid b1
  clear b1
  go_wp2
  go_ret2
  exact ⟨rfl, HB.out⟩
set_option maxHeartbeats 1600000 in
theorem tlive_no {B : Nat} {w : World} {g gs cap : Nat} {T : TabD} (h : IsTable B w g gs cap T) {n : Int} (hg : Gone T n) :
    Calls Try.prog 93 #[.pointer (some ⟨g, 0, none⟩), .int .i64 n] w fun e w' => e = .returned (.tuple #[.pointer none, .int .i64 18]) ∧ Below w.heap.size w w' := by
  rcases hg with hn | ⟨i, s, hf, hs⟩
  · have HF := Lib.hid (tfind_no h n hn)
    clear h hn
    go_enter Try.func93, Try.ntmps93
    go_wp2_with fail
    refine HF.out.mono ?_
    rintro e w1 ⟨rfl, b1⟩
    have HB := Lib.hid b1
    clear b1
    go_wp2
    go_ret2
    exact ⟨rfl, HB.out⟩
  · have HF := Lib.hid (tfind_yes h n i s hf.1 hf.2)
    have HR := Lib.hid (fun (W : World) (hW : Below w.heap.size w W) => (table_row (h.below hW) hf.2).2.2.1)
    rw [hs] at HR
    clear h hf hs
    go_enter Try.func93, Try.ntmps93
    go_wp2_with fail
    refine HF.out.mono ?_
    rintro e w1 ⟨rfl, b1⟩
    have r2 := HR.out w1 b1
    have HB := Lib.hid b1
    clear b1
    go_wp2
    go_ret2
    exact ⟨rfl, HB.out⟩
set_option maxHeartbeats 1600000 in
theorem tmortal_yes {B : Nat} {w : World} {g gs cap : Nat} {T : TabD} (h : IsTable B w g gs cap T) {n : Int} {i : Nat} {s : ProcD} (hf : Found T n i s) (hs : s.state ≠ 3) (hn : n ≠ 1) :
    Calls Try.prog 98 #[.pointer (some ⟨g, 0, none⟩), .int .i64 n] w fun e w' => e = .returned (.tuple #[.pointer (some ⟨gs, i * 6, none⟩), .int .i64 0]) ∧ Below w.heap.size w w' := by
  have HF := Lib.hid (tlive_yes h hf hs)
  have hq : (n == 1) = false := by simpa using hn
  clear h hf hs hn
  go_enter Try.func98, Try.ntmps98
  go_wp2_with fail
  refine HF.out.mono ?_
  rintro e w1 ⟨rfl, b1⟩
  have HB := Lib.hid b1
  clear b1
  go_wp2
  go_ret2
  exact ⟨rfl, HB.out⟩
set_option maxHeartbeats 1600000 in
theorem tmortal_one {B : Nat} {w : World} {g gs cap : Nat} {T : TabD} (h : IsTable B w g gs cap T) {i : Nat} {s : ProcD} (hf : Found T 1 i s) (hs : s.state ≠ 3) :
    Calls Try.prog 98 #[.pointer (some ⟨g, 0, none⟩), .int .i64 1] w fun e w' => e = .returned (.tuple #[.pointer none, .int .i64 1]) ∧ Below w.heap.size w w' := by
  have HF := Lib.hid (tlive_yes h hf hs)
  clear h hf hs
  go_enter Try.func98, Try.ntmps98
  go_wp2_with fail
  refine HF.out.mono ?_
  rintro e w1 ⟨rfl, b1⟩
  have HB := Lib.hid b1
  clear b1
  go_wp2
  go_ret2
  exact ⟨rfl, HB.out⟩
set_option maxHeartbeats 1600000 in
theorem tmortal_no {B : Nat} {w : World} {g gs cap : Nat} {T : TabD} (h : IsTable B w g gs cap T) {n : Int} (hg : Gone T n) :
    Calls Try.prog 98 #[.pointer (some ⟨g, 0, none⟩), .int .i64 n] w fun e w' => e = .returned (.tuple #[.pointer none, .int .i64 18]) ∧ Below w.heap.size w w' := by
  have HF := Lib.hid (tlive_no h hg)
  clear h hg
  go_enter Try.func98, Try.ntmps98
  go_wp2_with fail
  refine HF.out.mono ?_
  rintro e w1 ⟨rfl, b1⟩
  have HB := Lib.hid b1
  clear b1
  go_wp2
  go_ret2
  exact ⟨rfl, HB.out⟩
set_option maxHeartbeats 1600000 in
theorem tLive_yes {B : Nat} {w : World} {g gs cap : Nat} {T : TabD} (h : IsTable B w g gs cap T) {n : Int} {i : Nat} {s : ProcD} (hf : Found T n i s) (hs : s.state ≠ 3) :
    Calls Try.prog 43 #[.pointer (some ⟨g, 0, none⟩), .int .i64 n] w fun e w' => e = .returned (.int .i64 0) ∧ Below w.heap.size w w' := by
  have HF := Lib.hid (tlive_yes h hf hs)
  clear h hf hs
  go_enter Try.func43, Try.ntmps43
  go_wp2_with fail
  refine HF.out.mono ?_
  rintro e w1 ⟨rfl, b1⟩
  have HB := Lib.hid b1
  clear b1
  go_wp2
  go_ret
  exact ⟨rfl, HB.out⟩
set_option maxHeartbeats 1600000 in
theorem tLive_no {B : Nat} {w : World} {g gs cap : Nat} {T : TabD} (h : IsTable B w g gs cap T) {n : Int} (hg : Gone T n) :
    Calls Try.prog 43 #[.pointer (some ⟨g, 0, none⟩), .int .i64 n] w fun e w' => e = .returned (.int .i64 18) ∧ Below w.heap.size w w' := by
  have HF := Lib.hid (tlive_no h hg)
  clear h hg
  go_enter Try.func43, Try.ntmps43
  go_wp2_with fail
  refine HF.out.mono ?_
  rintro e w1 ⟨rfl, b1⟩
  have HB := Lib.hid b1
  clear b1
  go_wp2
  go_ret
  exact ⟨rfl, HB.out⟩
set_option maxHeartbeats 1600000 in
theorem tnow_is {B : Nat} {w : World} {g gs cap : Nat} {T : TabD} (h : IsTable B w g gs cap T) :
    Calls Try.prog 34 #[.pointer (some ⟨g, 0, none⟩)] w fun e w' => e = .returned (.int .i64 T.now) ∧ w = w' := by
  obtain ⟨c0, c1, c2, c3⟩ := table_facts h
  clear h
  go_enter Try.func34, Try.ntmps34
  go_wp2
  go_ret
  exact ⟨rfl, rfl⟩
/-- What the time is then. -/
def afterT (now n : Int) : Int := now + min (max n 0) (1099511627776 - now)
set_option maxHeartbeats 1600000 in
theorem tafter_is {B : Nat} {w : World} {g gs cap : Nat} {T : TabD} (h : IsTable B w g gs cap T) (n : Int) :
    Calls Try.prog 94 #[.pointer (some ⟨g, 0, none⟩), .int .i64 n] w fun e w' => e = .returned (.int .i64 (afterT T.now n)) ∧ Below w.heap.size w w' := by
  obtain ⟨c0, c1, c2, c3⟩ := table_facts h
  obtain ⟨_, _, _, _, t0, t1, _⟩ := h.2.2.2
  obtain ⟨now, hnow⟩ : ∃ x, T.now = x := ⟨_, rfl⟩
  rw [hnow] at c2 t0 t1 ⊢
  have hw1 : IntKind.i64.wrap (1099511627776 - now) = 1099511627776 - now := IntWalk.i64_in _ (by omega)
  have hw2 : IntKind.i64.wrap (now + min (max n 0) (1099511627776 - now)) = now + min (max n 0) (1099511627776 - now) := IntWalk.i64_in _ (by omega)
  unfold afterT
  clear h c0 c1 c3 hnow t0 t1
  go_enter Try.func94, Try.ntmps94
  go_wp2
  go_quiet (fail)
  go_wp2
  go_ret
  exact ⟨rfl, below_drewN _ _⟩
theorem size_proc : (Try.prog.info? 75).map (·.size) = some 6 := by kernel_rfl
theorem row_proc : ∃ d, Try.prog.underlying 75 = some d ∧ d.isRow = true := by
  cases h : Try.prog.underlying 75 with
  | none => exact absurd h (by decide)
  | some d =>
    refine ⟨d, rfl, ?_⟩
    have : (Try.prog.underlying 75).map (·.isRow) = some true := by kernel_rfl
    rw [h] at this
    simpa using this
theorem load_proc {w : World} {g : Nat} {cs : List Value} (hl : cs.length = 6) (h : w.heap[g]? = some (.cells cs.toArray 75 (0, 0))) : (loadVar 75 ⟨g, 0, none⟩).run Try.prog w = .ok (.agg cs.toArray) w := by
  obtain ⟨t, ht, hr⟩ := row_proc
  refine run_loadVar_mid w g 0 75 cs t (fun j v hv => ?_) ht hr (by rw [size_proc, hl])
  rw [Nat.zero_add]
  exact (cell_atT h j).trans (by rw [List.getElem?_toArray]; exact hv)
theorem results_proc_tmp {fn : Func} {p u : Tmp} (h : fn.results = #[.cell p 75, .tmp u]) (tmps : Array Value) (w : World) (g : Nat) {cs : List Value} (hl : cs.length = 6) (hp : tmps.getD p undef = .pointer (some ⟨g, 0, none⟩)) (hf : w.heap[g]? = some (.cells cs.toArray 75 (0, 0))) :
    (results fn tmps).run Try.prog w = .ok (.tuple #[.agg cs.toArray, tmps.getD u undef]) w := by
  rw [results_cell_tmp h, hp]
  simp only [asAddr, Sem.run_pure, Result.andThen_ok, load_proc hl hf]
/-- What a process is told as. -/
def procA (s : ProcD) : Value := .agg (procV s).toArray
def zeroT : ProcD := ⟨0, 0, 0, 0, 0, false⟩
theorem grown_setCellT (w : World) (a : Addr) (v : Value) : w.grownBy (w.setCell a v) (some a.block) := ⟨rfl, rfl, rfl, by simp [World.setCell], fun k hk hne => Below.heap_setCell _ _ _ _ (fun e => hne (by rw [e]))⟩
theorem grown_belowT {w w1 w' : World} {row : Option Nat} (b : Below w.heap.size w w1) (h : w1.grownBy w' row) : w.grownBy w' row :=
  ⟨h.os.trans b.os, h.tape.trans b.tape, h.output.trans b.output, Nat.le_trans b.size h.size, fun j hj hne => (h.block j (Nat.lt_of_lt_of_le hj b.size) hne).trans (b.block j hj)⟩
theorem grown_ofBelowT {w w' : World} {row : Option Nat} (b : Below w.heap.size w w') : w.grownBy w' row := grown_belowT b (grown_same _ _)
theorem grown_transT {w w' w'' : World} {row : Option Nat} (h : w.grownBy w' row) (k : w'.grownBy w'' row) : w.grownBy w'' row :=
  ⟨k.os.trans h.os, k.tape.trans h.tape, k.output.trans h.output, Nat.le_trans h.size k.size, fun j hj hne => (k.block j (Nat.lt_of_lt_of_le hj h.size) hne).trans (h.block j hj hne)⟩
theorem six_setT {w : World} {g : Nat} {x0 x1 x2 x3 x4 x5 : Value} {t : TypeId} (a b c d e f : Value) (h : w.heap[g]? = some (.cells #[x0, x1, x2, x3, x4, x5] t (0, 0))) :
    ((((((w.setCell ⟨g, 0, none⟩ a).setCell ⟨g, 1, none⟩ b).setCell ⟨g, 2, none⟩ c).setCell ⟨g, 3, none⟩ d).setCell ⟨g, 4, none⟩ e).setCell ⟨g, 5, none⟩ f).heap[g]? = some (.cells #[a, b, c, d, e, f] t (0, 0)) ∧ w.grownBy ((((((w.setCell ⟨g, 0, none⟩ a).setCell ⟨g, 1, none⟩ b).setCell ⟨g, 2, none⟩ c).setCell ⟨g, 3, none⟩ d).setCell ⟨g, 4, none⟩ e).setCell ⟨g, 5, none⟩ f) (some g) := by
  have h1 := heap_setCell_same w g 0 _ _ a h
  have h2 := heap_setCell_same _ g 1 _ _ b h1
  have h3 := heap_setCell_same _ g 2 _ _ c h2
  have h4 := heap_setCell_same _ g 3 _ _ d h3
  have h5 := heap_setCell_same _ g 4 _ _ e h4
  have h6 := heap_setCell_same _ g 5 _ _ f h5
  refine ⟨h6, ?_⟩
  exact grown_transT (grown_transT (grown_transT (grown_transT (grown_transT (grown_setCellT w ⟨g, 0, none⟩ a) (grown_setCellT _ ⟨g, 1, none⟩ b)) (grown_setCellT _ ⟨g, 2, none⟩ c)) (grown_setCellT _ ⟨g, 3, none⟩ d)) (grown_setCellT _ ⟨g, 4, none⟩ e)) (grown_setCellT _ ⟨g, 5, none⟩ f)
end Go.Proofs.Ythainmbapikjiaa
