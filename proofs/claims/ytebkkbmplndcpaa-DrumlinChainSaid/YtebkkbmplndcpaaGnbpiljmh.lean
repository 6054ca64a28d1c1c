/- Processes: live, mortal, Live, Get, Now, those, Pids, Children, by their walks. Processes: Get, those, Pids, Children, by their walks. Processes: New, Sleep, Kill, wake, by their walks. -/
import Derived.Test.YtebkkbmplndcpaaGgfpollak
import Derived.BigQuiet
import Derived.Deep.MidRow
import Derived.Deep.QuietTactic
namespace Go.Proofs.Ytebkkbmplndcpaa
open Go.RowKit Go.Sort
set_option linter.unusedVariables false
set_option linter.unusedSimpArgs false
set_option maxRecDepth 100000

/-- One that is found: where, and what it is. -/
def Found (T : TabD) (n : Int) (i : Nat) (s : ProcD) : Prop := findI T.list n = (i : Int) ∧ T.list[i]? = some s
theorem firstT_or {α : Type} (p : α → Bool) (l : List α) : (firstI p l = -1 ∧ ∀ s ∈ l, p s = false) ∨ ∃ (i : Nat) (s : α), firstI p l = (i : Int) ∧ l[i]? = some s ∧ p s = true ∧ ∀ (j : Nat) (t : α), j < i → l[j]? = some t → p t = false := by
  have key : ∀ k, k ≤ l.length → (placesL p l k = [] ∧ ∀ (j : Nat) (t : α), j < k → l[j]? = some t → p t = false) ∨ ∃ (i : Nat) (s : α), firstI p l = (i : Int) ∧ l[i]? = some s ∧ p s = true ∧ ∀ (j : Nat) (t : α), j < i → l[j]? = some t → p t = false := by
    intro k
    induction k with
    | zero => intro _; exact .inl ⟨rfl, fun j t hj => absurd hj (Nat.not_lt_zero _)⟩
    | succ k ih =>
      intro hk
      rcases ih (by omega) with ⟨h1, h2⟩ | h
      · obtain ⟨s, hs⟩ : ∃ s, l[k]? = some s := ⟨_, List.getElem?_eq_getElem (by omega)⟩
        cases hp : p s with
        | true => exact .inr ⟨k, s, firstI_hit h1 hs hp, hs, hp, h2⟩
        | false =>
          refine .inl ⟨(placesL_no hs hp).trans h1, fun j t hj ht => ?_⟩
          by_cases e : j = k
          · subst e; rw [hs] at ht; cases ht; exact hp
          · exact h2 j t (by omega) ht
      · exact .inr h
  rcases key l.length (Nat.le_refl _) with ⟨h1, h2⟩ | h
  · refine .inl ⟨by unfold firstI; rw [h1], fun s hs => ?_⟩
    obtain ⟨j, hj⟩ := List.mem_iff_getElem?.1 hs
    exact h2 j s (List.getElem?_eq_some_iff.1 hj).1 hj
  · exact .inr h
theorem found_or (T : TabD) (n : Int) : (findI T.list n = -1 ∧ ∀ s ∈ T.list, s.pid ≠ n) ∨ ∃ i s, Found T n i s ∧ s.pid = n ∧ ∀ (j : Nat) (t : ProcD), j < i → T.list[j]? = some t → t.pid ≠ n := by
  rcases firstT_or (pidB n) T.list with ⟨h1, h2⟩ | ⟨i, s, h1, h2, h3, h4⟩
  · exact .inl ⟨h1, fun s hs => of_decide_eq_false (h2 s hs)⟩
  · exact .inr ⟨i, s, ⟨h1, h2⟩, of_decide_eq_true h3, fun j t hj ht => of_decide_eq_false (h4 j t hj ht)⟩
/-- There is none that lives. -/
def Gone (T : TabD) (n : Int) : Prop := findI T.list n = -1 ∨ ∃ i s, Found T n i s ∧ s.state = 3
theorem gone_or (T : TabD) (n : Int) : Gone T n ∨ ∃ i s, Found T n i s ∧ s.state ≠ 3 := by
  rcases found_or T n with ⟨h, _⟩ | ⟨i, s, h, _⟩
  · exact .inl (.inl h)
  · by_cases hs : s.state = 3
    · exact .inl (.inr ⟨i, s, h, hs⟩)
    · exact .inr ⟨i, s, h, hs⟩
set_option maxHeartbeats 1600000 in
theorem tlive_yes {B : Nat} {w : World} {g gs cap : Nat} {T : TabD} (h : IsTable B w g gs cap T) {n : Int} {i : Nat} {s : ProcD} (hf : Found T n i s) (hs : s.state ≠ 3) :
    Calls Try.prog 65 #[.pointer (some ⟨g, 0, none⟩), .int .i64 n] w fun e w' => e = .returned (.tuple #[.pointer (some ⟨gs, i * 6, none⟩), .int .i64 0]) ∧ Below w.heap.size w w' := by
  have HF := Lib.hid (tfind_yes h n i s hf.1 hf.2)
  have HR := Lib.hid (fun (W : World) (hW : Below w.heap.size w W) => (table_row (h.below hW) hf.2).2.2.1)
  have hq : (s.state == 3) = false := by simpa using hs
  obtain ⟨x, hx⟩ : ∃ x, s.state = x := ⟨_, rfl⟩
  rw [hx] at HR hq
  clear h hf hs hx
  go_enter Try.func65, Try.ntmps65
  go_wp2_with fail
  refine HF.out.mono ?_
  rintro e w1 ⟨rfl, b1⟩
  have r2 := HR.out w1 b1
  have HB := Lib.hid b1
  clear b1
  go_wp2
  go_ret2
  exact ⟨rfl, HB.out⟩
set_option maxHeartbeats 1600000 in
theorem tlive_no {B : Nat} {w : World} {g gs cap : Nat} {T : TabD} (h : IsTable B w g gs cap T) {n : Int} (hg : Gone T n) :
    Calls Try.prog 65 #[.pointer (some ⟨g, 0, none⟩), .int .i64 n] w fun e w' => e = .returned (.tuple #[.pointer none, .int .i64 18]) ∧ Below w.heap.size w w' := by
  rcases hg with hn | ⟨i, s, hf, hs⟩
  · have HF := Lib.hid (tfind_no h n hn)
    clear h hn
    go_enter Try.func65, Try.ntmps65
    go_wp2_with fail
    refine HF.out.mono ?_
    rintro e w1 ⟨rfl, b1⟩
    have HB := Lib.hid b1
    clear b1
    go_wp2
    go_ret2
    exact ⟨rfl, HB.out⟩
  · have HF := Lib.hid (tfind_yes h n i s hf.1 hf.2)
    have HR := Lib.hid (fun (W : World) (hW : Below w.heap.size w W) => (table_row (h.below hW) hf.2).2.2.1)
    rw [hs] at HR
    clear h hf hs
    go_enter Try.func65, Try.ntmps65
    go_wp2_with fail
    refine HF.out.mono ?_
    rintro e w1 ⟨rfl, b1⟩
    have r2 := HR.out w1 b1
    have HB := Lib.hid b1
    clear b1
    go_wp2
    go_ret2
    exact ⟨rfl, HB.out⟩
set_option maxHeartbeats 1600000 in
theorem tmortal_yes {B : Nat} {w : World} {g gs cap : Nat} {T : TabD} (h : IsTable B w g gs cap T) {n : Int} {i : Nat} {s : ProcD} (hf : Found T n i s) (hs : s.state ≠ 3) (hn : n ≠ 1) :
    Calls Try.prog 49 #[.pointer (some ⟨g, 0, none⟩), .int .i64 n] w fun e w' => e = .returned (.tuple #[.pointer (some ⟨gs, i * 6, none⟩), .int .i64 0]) ∧ Below w.heap.size w w' := by
  have HF := Lib.hid (tlive_yes h hf hs)
  have hq : (n == 1) = false := by simpa using hn
  clear h hf hs hn
  go_enter Try.func49, Try.ntmps49
  go_wp2_with fail
  refine HF.out.mono ?_
  rintro e w1 ⟨rfl, b1⟩
  have HB := Lib.hid b1
  clear b1
  go_wp2
  go_ret2
  exact ⟨rfl, HB.out⟩
set_option maxHeartbeats 1600000 in
theorem tmortal_one {B : Nat} {w : World} {g gs cap : Nat} {T : TabD} (h : IsTable B w g gs cap T) {i : Nat} {s : ProcD} (hf : Found T 1 i s) (hs : s.state ≠ 3) :
    Calls Try.prog 49 #[.pointer (some ⟨g, 0, none⟩), .int .i64 1] w fun e w' => e = .returned (.tuple #[.pointer none, .int .i64 1]) ∧ Below w.heap.size w w' := by
  have HF := Lib.hid (tlive_yes h hf hs)
  clear h hf hs
  go_enter Try.func49, Try.ntmps49
  go_wp2_with fail
  refine HF.out.mono ?_
  rintro e w1 ⟨rfl, b1⟩
  have HB := Lib.hid b1
  clear b1
  go_wp2
  go_ret2
  exact ⟨rfl, HB.out⟩
set_option maxHeartbeats 1600000 in
theorem tmortal_no {B : Nat} {w : World} {g gs cap : Nat} {T : TabD} (h : IsTable B w g gs cap T) {n : Int} (hg : Gone T n) :
    Calls Try.prog 49 #[.pointer (some ⟨g, 0, none⟩), .int .i64 n] w fun e w' => e = .returned (.tuple #[.pointer none, .int .i64 18]) ∧ Below w.heap.size w w' := by
  have HF := Lib.hid (tlive_no h hg)
  clear h hg
  go_enter Try.func49, Try.ntmps49
  go_wp2_with fail
  refine HF.out.mono ?_
  rintro e w1 ⟨rfl, b1⟩
  have HB := Lib.hid b1
  clear b1
  go_wp2
  go_ret2
  exact ⟨rfl, HB.out⟩
set_option maxHeartbeats 1600000 in
theorem tLive_yes {B : Nat} {w : World} {g gs cap : Nat} {T : TabD} (h : IsTable B w g gs cap T) {n : Int} {i : Nat} {s : ProcD} (hf : Found T n i s) (hs : s.state ≠ 3) :
    Calls Try.prog 24 #[.pointer (some ⟨g, 0, none⟩), .int .i64 n] w fun e w' => e = .returned (.int .i64 0) ∧ Below w.heap.size w w' := by
  have HF := Lib.hid (tlive_yes h hf hs)
  clear h hf hs
  go_enter Try.func24, Try.ntmps24
  go_wp2_with fail
  refine HF.out.mono ?_
  rintro e w1 ⟨rfl, b1⟩
  have HB := Lib.hid b1
  clear b1
  go_wp2
  go_ret
  exact ⟨rfl, HB.out⟩
set_option maxHeartbeats 1600000 in
theorem tLive_no {B : Nat} {w : World} {g gs cap : Nat} {T : TabD} (h : IsTable B w g gs cap T) {n : Int} (hg : Gone T n) :
    Calls Try.prog 24 #[.pointer (some ⟨g, 0, none⟩), .int .i64 n] w fun e w' => e = .returned (.int .i64 18) ∧ Below w.heap.size w w' := by
  have HF := Lib.hid (tlive_no h hg)
  clear h hg
  go_enter Try.func24, Try.ntmps24
  go_wp2_with fail
  refine HF.out.mono ?_
  rintro e w1 ⟨rfl, b1⟩
  have HB := Lib.hid b1
  clear b1
  go_wp2
  go_ret
  exact ⟨rfl, HB.out⟩
/-- What the time is then. -/
def afterT (now n : Int) : Int := now + min (max n 0) (1099511627776 - now)
set_option maxHeartbeats 1600000 in
theorem tafter_is {B : Nat} {w : World} {g gs cap : Nat} {T : TabD} (h : IsTable B w g gs cap T) (n : Int) :
    Calls Try.prog 81 #[.pointer (some ⟨g, 0, none⟩), .int .i64 n] w fun e w' => e = .returned (.int .i64 (afterT T.now n)) ∧ Below w.heap.size w w' := by
  obtain ⟨c0, c1, c2, c3⟩ := table_facts h
  obtain ⟨_, _, _, _, t0, t1, _⟩ := h.2.2.2
  obtain ⟨now, hnow⟩ : ∃ x, T.now = x := ⟨_, rfl⟩
  rw [hnow] at c2 t0 t1 ⊢
  have hw1 : IntKind.i64.wrap (1099511627776 - now) = 1099511627776 - now := IntWalk.i64_in _ (by omega)
  have hw2 : IntKind.i64.wrap (now + min (max n 0) (1099511627776 - now)) = now + min (max n 0) (1099511627776 - now) := IntWalk.i64_in _ (by omega)
  unfold afterT
  clear h c0 c1 c3 hnow t0 t1
  go_enter Try.func81, Try.ntmps81
  go_wp2
  go_quiet (fail)
  go_wp2
  go_ret
  exact ⟨rfl, below_drewN _ _⟩
theorem size_proc : (Try.prog.info? 40).map (·.size) = some 6 := by kernel_rfl
theorem row_proc : ∃ d, Try.prog.underlying 40 = some d ∧ d.isRow = true := by
  cases h : Try.prog.underlying 40 with
  | none => exact absurd h (by decide)
  | some d =>
    refine ⟨d, rfl, ?_⟩
    have : (Try.prog.underlying 40).map (·.isRow) = some true := by kernel_rfl
    rw [h] at this
    simpa using this
theorem load_proc {w : World} {g : Nat} {cs : List Value} (hl : cs.length = 6) (h : w.heap[g]? = some (.cells cs.toArray 40 (0, 0))) : (loadVar 40 ⟨g, 0, none⟩).run Try.prog w = .ok (.agg cs.toArray) w := by
  obtain ⟨t, ht, hr⟩ := row_proc
  refine run_loadVar_mid w g 0 40 cs t (fun j v hv => ?_) ht hr (by rw [size_proc, hl])
  rw [Nat.zero_add]
  exact (cell_atT h j).trans (by rw [List.getElem?_toArray]; exact hv)
theorem results_proc_tmp {fn : Func} {p u : Tmp} (h : fn.results = #[.cell p 40, .tmp u]) (tmps : Array Value) (w : World) (g : Nat) {cs : List Value} (hl : cs.length = 6) (hp : tmps.getD p undef = .pointer (some ⟨g, 0, none⟩)) (hf : w.heap[g]? = some (.cells cs.toArray 40 (0, 0))) :
    (results fn tmps).run Try.prog w = .ok (.tuple #[.agg cs.toArray, tmps.getD u undef]) w := by
  rw [results_cell_tmp h, hp]
  simp only [asAddr, Sem.run_pure, Result.andThen_ok, load_proc hl hf]
/-- What a process is told as. -/
def procA (s : ProcD) : Value := .agg (procV s).toArray
def zeroT : ProcD := ⟨0, 0, 0, 0, 0, false⟩
theorem grown_setCellT (w : World) (a : Addr) (v : Value) : w.grownBy (w.setCell a v) (some a.block) := ⟨rfl, rfl, rfl, by simp [World.setCell], fun k hk hne => Below.heap_setCell _ _ _ _ (fun e => hne (by rw [e]))⟩
theorem grown_belowT {w w1 w' : World} {row : Option Nat} (b : Below w.heap.size w w1) (h : w1.grownBy w' row) : w.grownBy w' row :=
  ⟨h.os.trans b.os, h.tape.trans b.tape, h.output.trans b.output, Nat.le_trans b.size h.size, fun j hj hne => (h.block j (Nat.lt_of_lt_of_le hj b.size) hne).trans (b.block j hj)⟩
theorem grown_ofBelowT {w w' : World} {row : Option Nat} (b : Below w.heap.size w w') : w.grownBy w' row := grown_belowT b (grown_same _ _)
theorem grown_transT {w w' w'' : World} {row : Option Nat} (h : w.grownBy w' row) (k : w'.grownBy w'' row) : w.grownBy w'' row :=
  ⟨k.os.trans h.os, k.tape.trans h.tape, k.output.trans h.output, Nat.le_trans h.size k.size, fun j hj hne => (k.block j (Nat.lt_of_lt_of_le hj h.size) hne).trans (h.block j hj hne)⟩
theorem six_setT {w : World} {g : Nat} {x0 x1 x2 x3 x4 x5 : Value} {t : TypeId} (a b c d e f : Value) (h : w.heap[g]? = some (.cells #[x0, x1, x2, x3, x4, x5] t (0, 0))) :
    ((((((w.setCell ⟨g, 0, none⟩ a).setCell ⟨g, 1, none⟩ b).setCell ⟨g, 2, none⟩ c).setCell ⟨g, 3, none⟩ d).setCell ⟨g, 4, none⟩ e).setCell ⟨g, 5, none⟩ f).heap[g]? = some (.cells #[a, b, c, d, e, f] t (0, 0)) ∧ w.grownBy ((((((w.setCell ⟨g, 0, none⟩ a).setCell ⟨g, 1, none⟩ b).setCell ⟨g, 2, none⟩ c).setCell ⟨g, 3, none⟩ d).setCell ⟨g, 4, none⟩ e).setCell ⟨g, 5, none⟩ f) (some g) := by
  have h1 := heap_setCell_same w g 0 _ _ a h
  have h2 := heap_setCell_same _ g 1 _ _ b h1
  have h3 := heap_setCell_same _ g 2 _ _ c h2
  have h4 := heap_setCell_same _ g 3 _ _ d h3
  have h5 := heap_setCell_same _ g 4 _ _ e h4
  have h6 := heap_setCell_same _ g 5 _ _ f h5
  refine ⟨h6, ?_⟩
  exact grown_transT (grown_transT (grown_transT (grown_transT (grown_transT (grown_setCellT w ⟨g, 0, none⟩ a) (grown_setCellT _ ⟨g, 1, none⟩ b)) (grown_setCellT _ ⟨g, 2, none⟩ c)) (grown_setCellT _ ⟨g, 3, none⟩ d)) (grown_setCellT _ ⟨g, 4, none⟩ e)) (grown_setCellT _ ⟨g, 5, none⟩ f)
end Go.Proofs.Ytebkkbmplndcpaa

namespace Go.Proofs.Ytebkkbmplndcpaa
open Go.RowKit Go.Sort
set_option linter.unusedVariables false
set_option linter.unusedSimpArgs false
set_option maxRecDepth 100000

set_option maxHeartbeats 1600000 in
theorem tget_yes {B : Nat} {w : World} {g gs cap : Nat} {T : TabD} (h : IsTable B w g gs cap T) {n : Int} {i : Nat} {s : ProcD} (hf : Found T n i s) :
    Calls Try.prog 12 #[.pointer (some ⟨g, 0, none⟩), .int .i64 n] w fun e w' => e = .returned (.tuple #[procA s, .int .i64 0]) ∧ Below w.heap.size w w' := by
  have b0 := below_box w (.cells #[.int .i64 0, .int .i64 0, .int .i64 0, .int .i64 0, .int .i64 0, .bool false] 40)
  have H0 := Lib.hid (h.below b0)
  have HB0 := Lib.hid b0
  have HF := Lib.hid (tfind_yes H0.out n i s hf.1 hf.2)
  have HU := Lib.hid hf.2
  obtain ⟨x0, x1, x2, x3, x4, x5⟩ := s
  clear h b0 hf
  go_enter Try.func12, Try.ntmps12
  go_wp2_with fail
  refine HF.out.mono ?_
  rintro e w1 ⟨rfl, b1⟩
  have n1 := (b1.block w.heap.size (by simp)).trans (heap_alloc_new w _)
  obtain ⟨r0, r1, r2, r3, r4, r5⟩ := table_row (H0.out.below b1) HU.out
  have y0 := cell_atT n1 0
  have y1 := cell_atT n1 1
  have y2 := cell_atT n1 2
  have y3 := cell_atT n1 3
  have y4 := cell_atT n1 4
  have y5 := cell_atT n1 5
  have ff := fun i => frozen_atT n1 i
  have G := Lib.hid (six_setT (.int .i64 x0) (.int .i64 x1) (.int .i64 x2) (.int .i64 x3) (.int .i64 x4) (.bool x5) n1)
  have HB := Lib.hid (below_next HB0.out b1)
  clear b1 n1
  go_wp2
  refine bodyPost_ret (results_proc_tmp rfl _ _ w.heap.size (cs := procV ⟨x0, x1, x2, x3, x4, x5⟩) rfl rfl G.out.1) rfl ?_
  exact ⟨rfl, HB.out.grown G.out.2 HB.out.size (fun i hi => by obtain rfl := Option.some.inj hi; exact Nat.le_refl _)⟩
set_option maxHeartbeats 1600000 in
theorem tget_no {B : Nat} {w : World} {g gs cap : Nat} {T : TabD} (h : IsTable B w g gs cap T) {n : Int} (hf : findI T.list n = -1) :
    Calls Try.prog 12 #[.pointer (some ⟨g, 0, none⟩), .int .i64 n] w fun e w' => e = .returned (.tuple #[procA zeroT, .int .i64 18]) ∧ Below w.heap.size w w' := by
  have b0 := below_box w (.cells #[.int .i64 0, .int .i64 0, .int .i64 0, .int .i64 0, .int .i64 0, .bool false] 40)
  have HB0 := Lib.hid b0
  have HF := Lib.hid (tfind_no (h.below b0) n hf)
  clear h b0 hf
  go_enter Try.func12, Try.ntmps12
  go_wp2_with fail
  refine HF.out.mono ?_
  rintro e w1 ⟨rfl, b1⟩
  have n1 := (b1.block w.heap.size (by simp)).trans (heap_alloc_new w _)
  have y0 := cell_atT n1 0
  have y1 := cell_atT n1 1
  have y2 := cell_atT n1 2
  have y3 := cell_atT n1 3
  have y4 := cell_atT n1 4
  have y5 := cell_atT n1 5
  have ff := fun i => frozen_atT n1 i
  have G := Lib.hid (six_setT (.int .i64 0) (.int .i64 0) (.int .i64 0) (.int .i64 0) (.int .i64 0) (.bool false) n1)
  have HB := Lib.hid (below_next HB0.out b1)
  clear b1 n1
  go_wp2
  refine bodyPost_ret (results_proc_tmp rfl _ _ w.heap.size (cs := procV zeroT) rfl rfl G.out.1) rfl ?_
  exact ⟨rfl, HB.out.grown G.out.2 HB.out.size (fun i hi => by obtain rfl := Option.some.inj hi; exact Nat.le_refl _)⟩
/-- The Pids of those that are so. -/
def intsV (l : List Int) : List Value := l.map fun i => .int .i64 i
theorem intsV_append (l m : List Int) : intsV (l ++ m) = intsV l ++ intsV m := by unfold intsV; rw [List.map_append]
theorem intsV_length (l : List Int) : (intsV l).length = l.length := by unfold intsV; rw [List.length_map]
def thoseL (p : ProcD → Bool) (l : List ProcD) : List Int := (l.filter p).map (·.pid)
theorem thoseL_yes {p : ProcD → Bool} {l : List ProcD} {k : Nat} {u : ProcD} (h : l[k]? = some u) (hp : p u = true) : thoseL p (l.take (k + 1)) = thoseL p (l.take k) ++ [u.pid] := by
  unfold thoseL
  rw [List.take_add_one, h, List.filter_append, List.map_append]
  simp [hp]
theorem thoseL_no {p : ProcD → Bool} {l : List ProcD} {k : Nat} {u : ProcD} (h : l[k]? = some u) (hp : p u = false) : thoseL p (l.take (k + 1)) = thoseL p (l.take k) := by
  unfold thoseL
  rw [List.take_add_one, h, List.filter_append, List.map_append]
  simp [hp]
theorem thoseL_length (p : ProcD → Bool) (l : List ProcD) (k : Nat) : (thoseL p (l.take k)).length ≤ l.length := by
  unfold thoseL
  rw [List.length_map]
  exact Nat.le_trans (List.length_filter_le _ _) (by rw [List.length_take]; omega)
def ThosePost (w : World) (p : ProcD → Bool) (l : List ProcD) (e : Ending) (w' : World) : Prop := ∃ v, e = .returned v ∧ OwnsV w.heap.size w' 3 v (intsV (thoseL p l)) ∧ Below w.heap.size w w'
set_option maxHeartbeats 1600000 in
theorem those_is {B : Nat} {w : World} {gt gs cap : Nat} {T : TabD} (h : IsTable B w gt gs cap T) (p : ProcD → Bool) (g : Nat) (lb : Array Value) (eg : ∀ args w, (callFunc g args).run Try.prog w = .ok (.enter g args) w) (hp : PredV g lb (fun u => .agg (procV u).toArray) (fun _ => True) p w) :
    Calls Try.prog 45 #[.pointer (some ⟨gt, 0, none⟩), .func (.func g) #[] lb] w (ThosePost w p T.list) := by
  obtain ⟨_, _, _, c3⟩ := table_facts h
  have HR := Lib.hid (table_reads h)
  have hn := h.2.2.2.2.2.2.1
  obtain ⟨l, hl⟩ : ∃ l, T.list = l := ⟨_, rfl⟩
  rw [hl] at HR c3 hn ⊢
  obtain ⟨a, ha⟩ : ∃ a, (some (⟨gs, 0, none⟩ : Addr)) = a := ⟨_, rfl⟩
  rw [ha] at HR c3
  clear ha
  have HP := Lib.hid hp
  clear h hp hl
  obtain ⟨n, hnn⟩ : ∃ n, l.length = n := ⟨_, rfl⟩
  have HE : Hid (ThosePost w p l = fun e w' => ∃ v, e = .returned v ∧ OwnsV w.heap.size w' 3 v (intsV (thoseL p (l.take n))) ∧ Below w.heap.size w w') := by show _ = _; rw [← hnn, List.take_length]; rfl
  rw [hnn] at hn c3
  have HN := Lib.hid hnn
  clear hnn
  go_enter Try.func45, Try.ntmps45
  go_wp2
  go_loopw [5, 13] (fun v i wr => ∃ k : Nat, k ≤ n ∧ i = .int .i64 k ∧ Hid (OwnsV w.heap.size wr 3 v (intsV (thoseL p (l.take k)))) ∧ Hid (Below w.heap.size w wr)) (fun _ i _ => n - (intOf i).toNat)
  case atStart => exact ⟨0, Nat.zero_le _, rfl, OwnsV.nil _ _ _, Below.refl _ _⟩
  case round =>
    obtain ⟨k, hk, rfl, HO, HB⟩ := hrel
    by_cases hlt : k < n
    · obtain ⟨u, hrow⟩ : ∃ r, l[k]? = some r := ⟨_, List.getElem?_eq_getElem (by rw [HN.out]; exact hlt)⟩
      have HROW := Lib.hid hrow
      obtain ⟨b, off, rfl, hb, hc⟩ := (HR.out.below HB.out).row (procsV_get hrow)
      have c0 : wr.cell? ⟨b, off + k * 6, none⟩ = some (.int .i64 u.pid) := hc 0 _ rfl
      have c1 : wr.cell? ⟨b, off + k * 6 + 1, none⟩ = some (.int .i64 u.parent) := by have := hc 1 _ rfl; rwa [← Nat.add_assoc] at this
      have c2 : wr.cell? ⟨b, off + k * 6 + 2, none⟩ = some (.int .i64 u.state) := by have := hc 2 _ rfl; rwa [← Nat.add_assoc] at this
      have c3 : wr.cell? ⟨b, off + k * 6 + 3, none⟩ = some (.int .i64 u.code) := by have := hc 3 _ rfl; rwa [← Nat.add_assoc] at this
      have c4 : wr.cell? ⟨b, off + k * 6 + 4, none⟩ = some (.int .i64 u.til) := by have := hc 4 _ rfl; rwa [← Nat.add_assoc] at this
      have c5 : wr.cell? ⟨b, off + k * 6 + 5, none⟩ = some (.bool u.killed) := by have := hc 5 _ rfl; rwa [← Nat.add_assoc] at this
      have kb := below_box wr (.cells #[.int .i64 u.pid, .int .i64 u.parent, .int .i64 u.state, .int .i64 u.code, .int .i64 u.til, .bool u.killed] 40)
      have nb := heap_alloc_new wr (.cells #[.int .i64 u.pid, .int .i64 u.parent, .int .i64 u.state, .int .i64 u.code, .int .i64 u.til, .bool u.killed] 40)
      have HNB := Lib.hid nb
      clear hc hrow hb kb nb
      have hcall := fun W hW => HP.out W u trivial hW
      have hsz := HB.out.size
      obtain ⟨B, hB⟩ : ∃ B, w.heap.size = B := ⟨_, rfl⟩
      rw [hB] at hsz
      have hw1 : B ≤ wr.heap.size + 1 := by omega
      have hlen := thoseL_length p l k
      have hnl := HN.out
      have HLen : Hid ((intsV (thoseL p (l.take k))).length ≤ 100000) := by show _ ≤ _; rw [intsV_length]; omega
      clear hlen hB
      cases hpu : p u with
      | true =>
        simp only [hpu] at hcall
        have HNext : Hid (intsV (thoseL p (l.take (k + 1))) = intsV (thoseL p (l.take k)) ++ [.int .i64 u.pid]) := by show _ = _; rw [thoseL_yes HROW.out hpu, intsV_append]; rfl
        clear hpu
        go_wp2_with (first | (go_at_fn g; refine (hcall _ (below_next HB.out (below_box _ _))).mono ?_; rintro e w1 ⟨rfl, b1⟩; have y0 := cell_atT ((b1.block wr.heap.size (by simp)).trans HNB.out) 0) | (at_builtin; refine wpList_append_vals rfl _ _ 37 rfl w.heap.size 3 (.int .i64 0) 8 Try.underlying37 info_int rfl _ _ rfl (((HO.out.alloc _).below b1).alloc _) _ _ _ rfl _ (ReadsV.lit w1 #[.int .i64 u.pid] 3) (by intro y hy; simp at hy; subst hy; rfl) (by have := HLen.out; simp; omega) (by have := HLen.out; unfold maxLen; simp; omega) (by have h1 := b1.size; have h2 := HB.out.size; simp at h1 ⊢; omega) ?_; intro v' w2 ho hg))
        go_roundw
        case rel =>
          refine ⟨k + 1, by omega, by go_num, ?_, ?_⟩
          · show OwnsV _ _ _ _ _
            rw [HNext.out]
            exact ho
          · refine (((HO.out.alloc _).below b1).alloc _).grown ?_ ?_ hg
            · exact (below_next (below_next HB.out (below_box _ _)) b1).alloc (by have h1 := b1.size; have h2 := HB.out.size; simp at h1; omega) _
            · have h1 := b1.size; have h2 := HB.out.size; simp at h1 ⊢; omega
        case measure => simp [intOf]; omega
      | false =>
        simp only [hpu] at hcall
        have HNext : Hid (thoseL p (l.take (k + 1)) = thoseL p (l.take k)) := thoseL_no HROW.out hpu
        clear hpu
        go_wp2_with (go_at_fn g; refine (hcall _ (below_next HB.out (below_box _ _))).mono ?_; rintro e w1 ⟨rfl, b1⟩)
        go_roundw
        case rel =>
          refine ⟨k + 1, by omega, by go_num, ?_, ?_⟩
          · show OwnsV _ _ _ _ _
            rw [HNext.out]
            exact (HO.out.alloc _).below b1
          · exact below_next (below_next HB.out (below_box _ _)) b1
        case measure => simp [intOf]; omega
    · have hkn : k = n := by omega
      subst hkn
      go_wp2
      go_ret
      rw [HE.out]
      exact ⟨_, rfl, HO.out, HB.out⟩
theorem enters_pids1 (args : Array Value) (w : World) : (callFunc 46 args).run Try.prog w = .ok (.enter 46 args) w := enters_of Try.func46 (by kernel_rfl) rfl args w
theorem enters_children1 (args : Array Value) (w : World) : (callFunc 48 args).run Try.prog w = .ok (.enter 48 args) w := enters_of Try.func48 (by kernel_rfl) rfl args w
theorem all_pred (w : World) : PredV 46 #[] (fun s => .agg (procV s).toArray) (fun _ => True) (fun _ => true) w := by
  intro W s _ hB
  clear hB
  show Calls Try.prog 46 #[.agg #[.int .i64 s.pid, .int .i64 s.parent, .int .i64 s.state, .int .i64 s.code, .int .i64 s.til, .bool s.killed]] W _
  go_enter Try.func46, Try.ntmps46
  go_wp2
  go_ret
  exact ⟨rfl, below_box _ _⟩
def parentB (n : Int) (u : ProcD) : Bool := decide (u.parent = n)
set_option maxHeartbeats 1600000 in
theorem parent_pred {w : World} {bp : Nat} {n : Int} (hb : bp < w.heap.size) (h : w.cell? ⟨bp, 0, none⟩ = some (.int .i64 n)) : PredV 48 #[.pointer (some ⟨bp, 0, none⟩)] (fun s => .agg (procV s).toArray) (fun _ => True) (parentB n) w := by
  intro W s _ hB
  have hc := (hB.cell (p := ⟨bp, 0, none⟩) hb).trans h
  have hbW : bp < W.heap.size := Nat.lt_of_lt_of_le hb hB.size
  have b0 := below_box W (.cells #[.int .i64 s.pid, .int .i64 s.parent, .int .i64 s.state, .int .i64 s.code, .int .i64 s.til, .bool s.killed] 40)
  have hc2 := (b0.cell (p := ⟨bp, 0, none⟩) hbW).trans hc
  clear hB h hb hc
  show Calls Try.prog 48 #[.agg #[.int .i64 s.pid, .int .i64 s.parent, .int .i64 s.state, .int .i64 s.code, .int .i64 s.til, .bool s.killed], .pointer (some ⟨bp, 0, none⟩)] W fun e w' => e = .returned (.bool (decide (s.parent = n))) ∧ Below W.heap.size W w'
  go_enter Try.func48, Try.ntmps48
  go_wp2
  go_ret
  refine ⟨?_, b0⟩
  show Ending.returned (.bool (s.parent == n)) = _
  rw [beq_dec]
def pidsL (l : List ProcD) : List Int := l.map (·.pid)
set_option maxHeartbeats 1600000 in
theorem tpids_is {B : Nat} {w : World} {g gs cap : Nat} {T : TabD} (h : IsTable B w g gs cap T) :
    Calls Try.prog 11 #[.pointer (some ⟨g, 0, none⟩)] w fun e w' => ∃ v, e = .returned v ∧ OwnsV w.heap.size w' 3 v (intsV (pidsL T.list)) ∧ Below w.heap.size w w' := by
  have HT := Lib.hid (those_is h (fun _ => true) 46 #[] enters_pids1 (all_pred w))
  have e : thoseL (fun _ => true) T.list = pidsL T.list := by unfold thoseL pidsL; rw [List.filter_eq_self.2 (fun _ _ => rfl)]
  unfold ThosePost at HT
  rw [e] at HT
  clear h e
  go_enter Try.func11, Try.ntmps11
  go_wp2_with fail
  refine HT.out.mono ?_
  rintro e w1 ⟨v, rfl, ho, b1⟩
  have HO := Lib.hid (And.intro ho b1)
  clear ho b1
  go_wp2
  go_ret
  exact ⟨_, rfl, HO.out.1, HO.out.2⟩
set_option maxHeartbeats 1600000 in
theorem tchildren_is {B : Nat} {w : World} {g gs cap : Nat} {T : TabD} (h : IsTable B w g gs cap T) (n : Int) :
    Calls Try.prog 13 #[.pointer (some ⟨g, 0, none⟩), .int .i64 n] w fun e w' => ∃ v, e = .returned v ∧ OwnsV w.heap.size w' 3 v (intsV (thoseL (parentB n) T.list)) ∧ Below w.heap.size w w' := by
  have b0 := below_box w (.cells #[.int .i64 n] 3)
  have n0 := heap_alloc_new w (.cells #[.int .i64 n] 3)
  have HT := Lib.hid (those_is (h.below b0) (parentB n) 48 #[.pointer (some ⟨w.heap.size, 0, none⟩)] enters_children1 (parent_pred (by simp) (cell_atT n0 0)))
  unfold ThosePost at HT
  have HB0 := Lib.hid b0
  clear h b0 n0
  go_enter Try.func13, Try.ntmps13
  go_wp2_with fail
  refine HT.out.mono ?_
  rintro e w1 ⟨v, rfl, ho, b1⟩
  have HO := Lib.hid (And.intro (ho.less HB0.out.size) (below_next HB0.out b1))
  clear ho b1
  go_wp2
  go_ret
  exact ⟨_, rfl, HO.out.1, HO.out.2⟩
end Go.Proofs.Ytebkkbmplndcpaa

namespace Go.Proofs.Ytebkkbmplndcpaa
open Go.RowKit Go.Sort
set_option linter.unusedVariables false
set_option linter.unusedSimpArgs false
set_option maxRecDepth 100000

structure TKeeps (g gs : Nat) (w w' : World) : Prop where
  os : w'.os = w.os
  tape : w'.tape = w.tape
  output : w'.output = w.output
  size : w.heap.size ≤ w'.heap.size
  block : ∀ i, i < w.heap.size → i ≠ g → i ≠ gs → w'.heap[i]? = w.heap[i]?
theorem TKeeps.of_below {g gs : Nat} {w w' : World} (b : Below w.heap.size w w') : TKeeps g gs w w' := ⟨b.os, b.tape, b.output, b.size, fun i hi _ _ => b.block i hi⟩
theorem TKeeps.of_gs {g gs : Nat} {w w' : World} (k : w.grownBy w' (some gs)) : TKeeps g gs w w' := ⟨k.os, k.tape, k.output, k.size, fun i hi _ h => k.block i hi (fun e => h (Option.some.inj e))⟩
theorem TKeeps.of_g {g gs : Nat} {w w' : World} (k : w.grownBy w' (some g)) : TKeeps g gs w w' := ⟨k.os, k.tape, k.output, k.size, fun i hi h _ => k.block i hi (fun e => h (Option.some.inj e))⟩
theorem TKeeps.trans {g gs : Nat} {w w' w'' : World} (h : TKeeps g gs w w') (k : TKeeps g gs w' w'') : TKeeps g gs w w'' :=
  ⟨k.os.trans h.os, k.tape.trans h.tape, k.output.trans h.output, Nat.le_trans h.size k.size, fun i hi h1 h2 => (k.block i (Nat.lt_of_lt_of_le hi h.size) h1 h2).trans (h.block i hi h1 h2)⟩
theorem TKeeps.below {B g gs : Nat} {w0 w w' : World} (h : TKeeps g gs w w') (hb : Below B w0 w) (hB : B ≤ w.heap.size) (hg : B ≤ g) (hgs : B ≤ gs) : Below B w0 w' :=
  hb.trans ⟨h.os, h.tape, h.output, h.size, fun i hi => h.block i (by omega) (by omega) (by omega)⟩
/-- What a call on the table comes to. -/
def TPost (B : Nat) (w : World) (g gs : Nat) (T : TabD) (v : Value) (e : Ending) (w' : World) : Prop := ∃ gs' cap', e = .returned v ∧ IsTable B w' g gs' cap' T ∧ TKeeps g gs w w'
theorem TPost.same {B : Nat} {w w' : World} {g gs cap : Nat} {T : TabD} (h : IsTable B w g gs cap T) (b : Below w.heap.size w w') (v : Value) : TPost B w g gs T v (.returned v) w' := ⟨gs, cap, rfl, h.below b, .of_below b⟩
def firstProc : ProcD := ⟨1, 0, 1, 0, 0, false⟩
def newT (m : Int) : TabD := ⟨m, 1, 0, [firstProc]⟩
def TNewPost (w : World) (m : Int) (e : Ending) (w' : World) : Prop := ∃ g gs, e = .returned (.pointer (some ⟨g, 0, none⟩)) ∧ IsTable w.heap.size w' g gs 1 (newT m) ∧ Below w.heap.size w w'
set_option maxHeartbeats 1600000 in
theorem tnew_is (n m : Int) (hm : min (max n 1) 16 = m) (w : World) : Calls Try.prog 7 #[.int .i64 n] w (TNewPost w m) := by
  have hm1 : 1 ≤ m ∧ m ≤ 16 := by omega
  have HM := Lib.hid hm1
  go_enter Try.func7, Try.ntmps7
  go_wp2
  try rw [hm]
  go_ret
  refine ⟨w.heap.size + 1, w.heap.size, rfl, ⟨?_, ?_, Nat.le_succ _, HM.out.1, HM.out.2, Nat.le_refl _, show 1 ≤ 16 by decide, show (0 : Int) ≤ 0 by decide, show (0 : Int) ≤ 1099511627776 by decide, show (0 : Int) ≤ 1 by decide⟩, ((Below.refl _ _).alloc (Nat.le_refl _) _).alloc (by simp) _⟩
  · rw [heap_alloc2_new]
    rfl
  · have hnew := OwnsR'.new (B := w.heap.size) (w := w) (e := 40) (k := 6) (l := procsV [firstProc]) (procs_rows _) (Nat.le_refl _) (by unfold maxLen; decide) (cs := #[.int .i64 1, .int .i64 0, .int .i64 1, .int .i64 0, .int .i64 0, .bool false]) rfl
    exact hnew.alloc _
/-- A cell of a row stored. -/
theorem table_store {B : Nat} {w : World} {g gs cap : Nat} {T : TabD} (h : IsTable B w g gs cap T) {i j : Nat} {s s' : ProcD} (hu : T.list[i]? = some s) (hj : j < 6) (x : Value) (hx : (procV s).set j x = procV s') :
    IsTable B (w.setCell ⟨gs, i * 6 + j, none⟩ x) g gs cap { T with list := T.list.set i s' } ∧ w.grownBy (w.setCell ⟨gs, i * 6 + j, none⟩ x) (some gs) := by
  have hs := h.2.1.stored (procsV_length T.list) (procsV_get hu) hj x
  have e : (procsV T.list).set i ((procV s).set j x) = procsV (T.list.set i s') := by rw [hx]; unfold procsV; rw [List.map_set]
  rw [e] at hs
  refine ⟨⟨?_, ?_, h.2.2.1, ?_⟩, hs.2⟩
  · show _ = some (Obj.cells #[.int .i64 T.most, .int .i64 T.last, .int .i64 T.now, .slice (some ⟨gs, 0, none⟩) (T.list.set i s').length cap] 77 (0, 0))
    rw [List.length_set, ← h.1]
    exact hs.2.block g (table_lt h).1 (by rw [Ne, Option.some.injEq]; exact fun e => h.apart e.symm)
  · show OwnsR' B _ _ 6 (.slice (some ⟨gs, 0, none⟩) (T.list.set i s').length cap) (procsV (T.list.set i s'))
    rw [List.length_set]
    exact hs.1
  · obtain ⟨h1, h2, h3, h4, h5⟩ := h.2.2.2
    exact ⟨h1, h2, by rw [List.length_set]; exact h3, by rw [List.length_set]; exact h4, h5⟩
def sleepP (now ticks : Int) (s : ProcD) : ProcD := { s with state := 2, til := afterT now ticks }
def killP (s : ProcD) : ProcD := { s with killed := true, state := 1, til := 0 }
def wakeP (s : ProcD) : ProcD := { s with state := 1, til := 0 }
set_option maxHeartbeats 1600000 in
theorem wake_is {B : Nat} {w : World} {g gs cap : Nat} {T : TabD} (h : IsTable B w g gs cap T) {i : Nat} {s : ProcD} (hu : T.list[i]? = some s) :
    Calls Try.prog 78 #[.pointer (some ⟨gs, i * 6, none⟩)] w fun e w' => e = .returned (.tuple #[]) ∧ IsTable B w' g gs cap { T with list := T.list.set i (wakeP s) } ∧ w.grownBy w' (some gs) := by
  have hi := (List.getElem?_eq_some_iff.1 hu).1
  obtain ⟨r0, r1, r2, r3, r4, r5⟩ := table_row h hu
  have f2 := table_free h (i * 6 + 2)
  have f4 := table_free h (i * 6 + 4)
  have s1 := table_store (j := 2) h hu (by decide) (.int .i64 1) (s' := { s with state := 1 }) rfl
  have hu2 : (T.list.set i { s with state := 1 })[i]? = some { s with state := 1 } := List.getElem?_set_self hi
  have s2 := table_store (j := 4) s1.1 hu2 (by decide) (.int .i64 0) (s' := wakeP s) rfl
  have e : (T.list.set i { s with state := 1 }).set i (wakeP s) = T.list.set i (wakeP s) := by rw [List.set_set]
  have x4 := (table_row s1.1 hu2).2.2.2.2.1
  have y4 := table_free s1.1 (i * 6 + 4)
  obtain ⟨W, hW⟩ : ∃ x, (w.setCell ⟨gs, i * 6 + 2, none⟩ (.int .i64 1)).setCell ⟨gs, i * 6 + 4, none⟩ (.int .i64 0) = x := ⟨_, rfl⟩
  rw [hW] at s2
  have HS : Hid (IsTable B W g gs cap { T with list := T.list.set i (wakeP s) } ∧ w.grownBy W (some gs)) := Lib.hid ⟨by have := s2.1; dsimp only at this; rw [e] at this; exact this, grown_transT s1.2 s2.2⟩
  clear h hu s1 s2 hu2 e r0 r1 r3 r5
  go_enter Try.func78, Try.ntmps78
  go_wp2
  try rw [hW]
  clear hW
  go_end0
  exact ⟨rfl, HS.out.1, HS.out.2⟩
set_option maxHeartbeats 1600000 in
theorem tkill_yes {B : Nat} {w : World} {g gs cap : Nat} {T : TabD} (h : IsTable B w g gs cap T) {n : Int} {i : Nat} {s : ProcD} (hf : Found T n i s) (hs : s.state ≠ 3) (hn : n ≠ 1) :
    Calls Try.prog 38 #[.pointer (some ⟨g, 0, none⟩), .int .i64 n] w (TPost B w g gs { T with list := T.list.set i (killP s) } (.int .i64 0)) := by
  have HF := Lib.hid (tmortal_yes h hf hs hn)
  have HW := Lib.hid (fun (W : World) (hW : Below w.heap.size w W) => by
    have k0 := h.below hW
    have s1 := table_store (j := 5) k0 hf.2 (by decide) (.bool true) (s' := { s with killed := true }) rfl
    have hu2 : (T.list.set i { s with killed := true })[i]? = some { s with killed := true } := List.getElem?_set_self (List.getElem?_eq_some_iff.1 hf.2).1
    have hwk := wake_is s1.1 hu2
    dsimp only at hwk
    rw [List.set_set] at hwk
    exact And.intro (And.intro ((table_row k0 hf.2).2.2.2.2.2) (table_free k0 (i * 6 + 5))) (And.intro s1.2 hwk))
  have H := Lib.hid h
  clear h hf hs hn
  go_enter Try.func38, Try.ntmps38
  go_wp2_with fail
  refine HF.out.mono ?_
  rintro e w1 ⟨rfl, b1⟩
  obtain ⟨⟨x5, f5⟩, g5, hwk⟩ := HW.out w1 b1
  have HB := Lib.hid b1
  have HG := Lib.hid g5
  have HK := Lib.hid hwk
  clear b1 g5 hwk HW
  go_wp2_with fail
  refine HK.out.mono ?_
  rintro e w2 ⟨rfl, ht, hg⟩
  have HT := Lib.hid (And.intro ht (grown_transT HG.out hg))
  clear ht hg x5 f5
  go_wp2
  go_ret
  exact ⟨gs, _, rfl, HT.out.1, (TKeeps.of_below HB.out).trans (.of_gs HT.out.2)⟩
set_option maxHeartbeats 1600000 in
theorem tkill_one {B : Nat} {w : World} {g gs cap : Nat} {T : TabD} (h : IsTable B w g gs cap T) {i : Nat} {s : ProcD} (hf : Found T 1 i s) (hs : s.state ≠ 3) :
    Calls Try.prog 38 #[.pointer (some ⟨g, 0, none⟩), .int .i64 1] w (TPost B w g gs T (.int .i64 1)) := by
  have HF := Lib.hid (tmortal_one h hf hs)
  have H := Lib.hid h
  clear h hf hs
  go_enter Try.func38, Try.ntmps38
  go_wp2_with fail
  refine HF.out.mono ?_
  rintro e w1 ⟨rfl, b1⟩
  have HB := Lib.hid b1
  clear b1
  go_wp2
  go_ret
  exact TPost.same H.out HB.out _
set_option maxHeartbeats 1600000 in
theorem tkill_no {B : Nat} {w : World} {g gs cap : Nat} {T : TabD} (h : IsTable B w g gs cap T) {n : Int} (hg : Gone T n) :
    Calls Try.prog 38 #[.pointer (some ⟨g, 0, none⟩), .int .i64 n] w (TPost B w g gs T (.int .i64 18)) := by
  have HF := Lib.hid (tmortal_no h hg)
  have H := Lib.hid h
  clear h hg
  go_enter Try.func38, Try.ntmps38
  go_wp2_with fail
  refine HF.out.mono ?_
  rintro e w1 ⟨rfl, b1⟩
  have HB := Lib.hid b1
  clear b1
  go_wp2
  go_ret
  exact TPost.same H.out HB.out _
set_option maxHeartbeats 1600000 in
theorem tsleep_no {B : Nat} {w : World} {g gs cap : Nat} {T : TabD} (h : IsTable B w g gs cap T) {n : Int} (hg : Gone T n) (k : Int) :
    Calls Try.prog 40 #[.pointer (some ⟨g, 0, none⟩), .int .i64 n, .int .i64 k] w (TPost B w g gs T (.int .i64 18)) := by
  have HF := Lib.hid (tlive_no h hg)
  have H := Lib.hid h
  clear h hg
  go_enter Try.func40, Try.ntmps40
  go_wp2_with fail
  refine HF.out.mono ?_
  rintro e w1 ⟨rfl, b1⟩
  have HB := Lib.hid b1
  clear b1
  go_wp2
  go_ret
  exact TPost.same H.out HB.out _
set_option maxHeartbeats 1600000 in
theorem tsleep_busy {B : Nat} {w : World} {g gs cap : Nat} {T : TabD} (h : IsTable B w g gs cap T) {n : Int} {i : Nat} {s : ProcD} (hf : Found T n i s) (hs : s.state = 2) (k : Int) :
    Calls Try.prog 40 #[.pointer (some ⟨g, 0, none⟩), .int .i64 n, .int .i64 k] w (TPost B w g gs T (.int .i64 22)) := by
  have HF := Lib.hid (tlive_yes h hf (by omega))
  have HR := Lib.hid (fun (W : World) (hW : Below w.heap.size w W) => (table_row (h.below hW) hf.2).2.2.1)
  rw [hs] at HR
  have H := Lib.hid h
  clear h hf hs
  go_enter Try.func40, Try.ntmps40
  go_wp2_with fail
  refine HF.out.mono ?_
  rintro e w1 ⟨rfl, b1⟩
  have r2 := HR.out w1 b1
  have HB := Lib.hid b1
  clear b1
  go_wp2
  go_ret
  exact TPost.same H.out HB.out _
set_option maxHeartbeats 1600000 in
theorem tsleep_none {B : Nat} {w : World} {g gs cap : Nat} {T : TabD} (h : IsTable B w g gs cap T) {n : Int} {i : Nat} {s : ProcD} (hf : Found T n i s) (hs : s.state ≠ 3) (hs2 : s.state ≠ 2) (k : Int) (hk : k ≤ 0) :
    Calls Try.prog 40 #[.pointer (some ⟨g, 0, none⟩), .int .i64 n, .int .i64 k] w (TPost B w g gs T (.int .i64 0)) := by
  have HF := Lib.hid (tlive_yes h hf hs)
  have HR := Lib.hid (fun (W : World) (hW : Below w.heap.size w W) => (table_row (h.below hW) hf.2).2.2.1)
  have hq : (s.state == 2) = false := by simpa using hs2
  obtain ⟨x, hx⟩ : ∃ x, s.state = x := ⟨_, rfl⟩
  rw [hx] at HR hq
  have H := Lib.hid h
  have hk' : ¬ 0 < k := by omega
  clear h hf hs hs2 hx
  go_enter Try.func40, Try.ntmps40
  go_wp2_with fail
  refine HF.out.mono ?_
  rintro e w1 ⟨rfl, b1⟩
  have r2 := HR.out w1 b1
  have HB := Lib.hid b1
  clear b1
  go_wp2
  go_ret
  exact TPost.same H.out HB.out _
set_option maxHeartbeats 1600000 in
theorem tsleep_yes {B : Nat} {w : World} {g gs cap : Nat} {T : TabD} (h : IsTable B w g gs cap T) {n : Int} {i : Nat} {s : ProcD} (hf : Found T n i s) (hs : s.state ≠ 3) (hs2 : s.state ≠ 2) (k : Int) (hk : 0 < k) :
    Calls Try.prog 40 #[.pointer (some ⟨g, 0, none⟩), .int .i64 n, .int .i64 k] w (TPost B w g gs { T with list := T.list.set i (sleepP T.now k s) } (.int .i64 0)) := by
  have HF := Lib.hid (tlive_yes h hf hs)
  have HA := Lib.hid (fun (W : World) (hW : Below w.heap.size w W) => tafter_is (h.below hW) k)
  have hq : (s.state == 2) = false := by simpa using hs2
  obtain ⟨til, htil⟩ : ∃ x, afterT T.now k = x := ⟨_, rfl⟩
  have hsl : sleepP T.now k s = { s with state := 2, til := til } := by unfold sleepP; rw [htil]
  have HR := Lib.hid (fun (W : World) (hW : Below w.heap.size w W) => by
    have k0 := h.below hW
    have hi := (List.getElem?_eq_some_iff.1 hf.2).1
    have s1 := table_store (j := 2) k0 hf.2 (by decide) (.int .i64 2) (s' := { s with state := 2 }) rfl
    have hu2 : (T.list.set i { s with state := 2 })[i]? = some { s with state := 2 } := List.getElem?_set_self hi
    have s2 := table_store (j := 4) s1.1 hu2 (by decide) (.int .i64 til) (s' := { s with state := 2, til := til }) rfl
    dsimp only at s2
    rw [List.set_set, ← hsl] at s2
    exact And.intro (And.intro (table_row k0 hf.2).2.2.1 (table_free k0 (i * 6 + 2))) (And.intro (And.intro (table_row s1.1 hu2).2.2.2.2.1 (table_free s1.1 (i * 6 + 4))) (And.intro s2.1 (grown_transT s1.2 s2.2))))
  rw [htil] at HA
  obtain ⟨x, hx⟩ : ∃ x, s.state = x := ⟨_, rfl⟩
  rw [hx] at HR hq
  have H := Lib.hid h
  clear h hf hs hs2 hx hsl htil
  go_enter Try.func40, Try.ntmps40
  go_wp2_with fail
  refine HF.out.mono ?_
  rintro e w1 ⟨rfl, b1⟩
  have r2 := (HR.out w1 b1).1.1
  have HB := Lib.hid b1
  clear b1
  go_wp2_with fail
  refine (HA.out w1 HB.out).mono ?_
  rintro e w2 ⟨rfl, b2⟩
  have HB2 := Lib.hid (below_next HB.out b2)
  obtain ⟨⟨x2, f2⟩, ⟨x4, f4⟩, ht, hg⟩ := HR.out w2 HB2.out
  have HT := Lib.hid (And.intro ht hg)
  clear r2 b2 ht hg
  go_wp2
  go_ret
  exact ⟨gs, _, rfl, HT.out.1, (TKeeps.of_below HB2.out).trans (.of_gs HT.out.2)⟩
end Go.Proofs.Ytebkkbmplndcpaa
