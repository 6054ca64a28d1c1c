/- Open files: find, Get, Ref, Close, Move, Open, Count. -/
import Derived.Test.YtbpklbicbeckdaaGdbhjonfa
import Derived.Deep.QuietTactic
import Derived.BigQuiet
namespace Go.Proofs.Ytbpklbicbeckdaa
open Go.RowKit Go.Sort
set_option linter.unusedVariables false
set_option linter.unusedSimpArgs false
set_option maxRecDepth 100000

/-- The open file of a number. -/
def openAt (fl : List FileD) (n : Int) : Option FileD := if 0 ≤ n then (match fl[n.toNat]? with | some o => if knownB o then some o else none | none => none) else none
theorem openAt_yes {fl : List FileD} {i : Nat} {o : FileD} (h : fl[i]? = some o) (hk : knownB o = true) : openAt fl (i : Int) = some o := by
  unfold openAt
  rw [if_pos (by omega), Int.toNat_natCast, h]
  simp [hk]
theorem openAt_some {fl : List FileD} {n : Int} {o : FileD} (h : openAt fl n = some o) : ∃ i : Nat, n = (i : Int) ∧ fl[i]? = some o ∧ knownB o = true := by
  unfold openAt at h
  split at h
  · rename_i h0
    split at h
    · rename_i x hx
      split at h
      · rename_i hk
        obtain rfl := Option.some.inj h
        exact ⟨n.toNat, by omega, hx, hk⟩
      · cases h
    · cases h
  · cases h
theorem openAt_none {fl : List FileD} {n : Int} (h : openAt fl n = none) : n < 0 ∨ (fl.length : Int) ≤ n ∨ ∃ (i : Nat) (o : FileD), n = (i : Int) ∧ fl[i]? = some o ∧ knownB o = false := by
  unfold openAt at h
  split at h
  · rename_i h0
    split at h
    · rename_i x hx
      split at h
      · cases h
      · rename_i hk
        exact .inr (.inr ⟨n.toNat, x, by omega, hx, by simpa using hk⟩)
    · rename_i hx
      rw [List.getElem?_eq_none_iff] at hx
      exact .inr (.inl (by omega))
  · exact .inl (by omega)
set_option maxHeartbeats 1000000 in
theorem ffind_yes {B : Nat} {w : World} {g gs : Nat} {fl : List FileD} (h : IsFiles B w g gs fl) (i : Nat) (s : FileD) (hu : fl[i]? = some s) (hk : knownB s = true) :
    Calls Try.prog 71 #[.pointer (some ⟨g, 0, none⟩), .int .i64 (i : Int)] w fun e w' => e = .returned (.tuple #[.pointer (some ⟨gs, i * 5, none⟩), .int .i64 0]) ∧ Below w.heap.size w w' := by
  have c0 := files_facts h
  obtain ⟨r0, r1, r2, r3, r4⟩ := files_row h hu
  have hi := (List.getElem?_eq_some_iff.1 hu).1
  have hlen := h.2.2.2.2
  have hi2 : (i : Int) < (fl.length : Int) := by omega
  have hi3 : ¬ (fl.length : Int) ≤ (i : Int) := by omega
  have hi0 : (0 : Int) ≤ (i : Int) := by omega
  have hi4 : ¬ (i : Int) < 0 := by omega
  have hI : (i : Int) ≤ 64 := by omega
  have H := Lib.hid h
  have HK := Lib.hid hk
  clear h hu hi hk
  go_enter Try.func71, Try.ntmps71
  go_wp2_with fail
  refine (known_is s w).mono ?_
  rintro e w' ⟨rfl, b1⟩
  rw [HK.out]
  have h1 := H.out.below b1
  have c1 := files_facts h1
  have HB := Lib.hid b1
  clear b1 h1
  go_wp2
  go_ret2
  exact ⟨rfl, HB.out⟩
set_option maxHeartbeats 1000000 in
theorem ffind_no {B : Nat} {w : World} {g gs : Nat} {fl : List FileD} (h : IsFiles B w g gs fl) (n : Int) (hn : openAt fl n = none) :
    Calls Try.prog 71 #[.pointer (some ⟨g, 0, none⟩), .int .i64 n] w fun e w' => e = .returned (.tuple #[.pointer none, .int .i64 2]) ∧ Below w.heap.size w w' := by
  have c0 := files_facts h
  have hlen := h.2.2.2.2
  rcases openAt_none hn with h0 | h0 | ⟨i, s, rfl, hu, hk⟩
  · clear h hn
    go_enter Try.func71, Try.ntmps71
    go_wp2
    go_ret2
    exact ⟨rfl, Below.refl _ _⟩
  · clear h hn
    have h1 : ¬ n < 0 := by omega
    go_enter Try.func71, Try.ntmps71
    go_wp2
    go_ret2
    exact ⟨rfl, Below.refl _ _⟩
  · obtain ⟨r0, r1, r2, r3, r4⟩ := files_row h hu
    have hi := (List.getElem?_eq_some_iff.1 hu).1
    have hi2 : (i : Int) < (fl.length : Int) := by omega
    have hi3 : ¬ (fl.length : Int) ≤ (i : Int) := by omega
    have hi0 : (0 : Int) ≤ (i : Int) := by omega
    have hi4 : ¬ (i : Int) < 0 := by omega
    have hI : (i : Int) ≤ 64 := by omega
    have HK := Lib.hid hk
    clear h hu hi hk hn
    go_enter Try.func71, Try.ntmps71
    go_wp2_with fail
    refine (known_is s w).mono ?_
    rintro e w' ⟨rfl, b1⟩
    rw [HK.out]
    have HB := Lib.hid b1
    clear b1
    go_wp2
    go_ret2
    exact ⟨rfl, HB.out⟩
theorem size_file : (Try.prog.info? 74).map (·.size) = some 5 := by kernel_rfl
theorem row_file : ∃ d, Try.prog.underlying 74 = some d ∧ d.isRow = true := by
  cases h : Try.prog.underlying 74 with
  | none => exact absurd h (by decide)
  | some d =>
    refine ⟨d, rfl, ?_⟩
    have : (Try.prog.underlying 74).map (·.isRow) = some true := by kernel_rfl
    rw [h] at this
    simpa using this
theorem load_file {w : World} {g : Nat} {a b c d e : Value} (h : Five w g a b c d e) : (loadVar 74 ⟨g, 0, none⟩).run Try.prog w = .ok (.agg #[a, b, c, d, e]) w := by
  obtain ⟨t, ht, hr⟩ := row_file
  obtain ⟨h0, h1, h2, h3, h4⟩ := h
  refine run_loadVar_mid w g 0 74 [a, b, c, d, e] t (fun j v hv => ?_) ht hr size_file
  rw [Nat.zero_add]
  match j, hv with
  | 0, hv => cases hv; exact h0
  | 1, hv => cases hv; exact h1
  | 2, hv => cases hv; exact h2
  | 3, hv => cases hv; exact h3
  | 4, hv => cases hv; exact h4
theorem results_file_tmp {fn : Func} {p u : Tmp} (h : fn.results = #[.cell p 74, .tmp u]) (tmps : Array Value) (w : World) (g : Nat) {a b c d e : Value} (hp : tmps.getD p undef = .pointer (some ⟨g, 0, none⟩)) (hf : Five w g a b c d e) :
    (results fn tmps).run Try.prog w = .ok (.tuple #[.agg #[a, b, c, d, e], tmps.getD u undef]) w := by
  rw [results_cell_tmp h, hp]
  simp only [asAddr, Sem.run_pure, Result.andThen_ok, load_file hf]
theorem results_file_two {fn : Func} {p u x : Tmp} (h : fn.results = #[.cell p 74, .tmp u, .tmp x]) (tmps : Array Value) (w : World) (g : Nat) {a b c d e : Value} (hp : tmps.getD p undef = .pointer (some ⟨g, 0, none⟩)) (hf : Five w g a b c d e) :
    (results fn tmps).run Try.prog w = .ok (.tuple #[.agg #[a, b, c, d, e], tmps.getD u undef, tmps.getD x undef]) w := by
  have e1 : (results fn tmps).run Try.prog w = ((asAddr (tmps.getD p undef)).run Try.prog w).andThen fun a w₁ => ((loadVar 74 a).run Try.prog w₁).andThen fun v w₂ => .ok (.tuple #[v, tmps.getD u undef, tmps.getD x undef]) w₂ := by
    simp only [results, h]
    simp [Sem.run_bind, Result.andThen]
  rw [e1, hp]
  simp only [asAddr, Sem.run_pure, Result.andThen_ok, load_file hf]
/-- What a file is told as. -/
def fileA (s : FileD) : Value := .agg #[.int .i64 s.kind, .int .i64 s.num, .int .i64 s.at_, .int .i64 s.flags, .int .i64 s.refs]
def getF (fl : List FileD) (n : Int) : FileD × Int := match openAt fl n with | some o => (o, 0) | none => (zeroF, 2)
theorem getF_yes {fl : List FileD} {n : Int} {o : FileD} (h : openAt fl n = some o) : getF fl n = (o, 0) := by unfold getF; rw [h]
theorem getF_no {fl : List FileD} {n : Int} (h : openAt fl n = none) : getF fl n = (zeroF, 2) := by unfold getF; rw [h]
set_option maxHeartbeats 1000000 in
theorem fget_is {B : Nat} {w : World} {g gs : Nat} {fl : List FileD} (h : IsFiles B w g gs fl) (n : Int) :
    Calls Try.prog 46 #[.pointer (some ⟨g, 0, none⟩), .int .i64 n] w fun e w' => e = .returned (.tuple #[fileA (getF fl n).1, .int .i64 (getF fl n).2]) ∧ Below w.heap.size w w' := by
  have h2 := h.below (below_box w (.cells #[.int .i64 0, .int .i64 0, .int .i64 0, .int .i64 0, .int .i64 0] 74))
  have H2 := Lib.hid h2
  clear h
  cases ho : openAt fl n with
  | none =>
    rw [getF_no ho]
    have HO := Lib.hid ho
    clear ho h2
    go_enter Try.func46, Try.ntmps46
    go_wp2_with fail
    refine (ffind_no H2.out n HO.out).mono ?_
    rintro e w' ⟨rfl, b1⟩
    have n1 := (b1.block w.heap.size (by simp)).trans (heap_alloc_new w _)
    have x0 := cell_of_row n1 0
    have x1 := cell_of_row n1 1
    have x2 := cell_of_row n1 2
    have x3 := cell_of_row n1 3
    have x4 := cell_of_row n1 4
    have ff := fun i => frozen_of_row w' w.heap.size i _ _ n1
    have G := Lib.hid (five_set (.int .i64 0) (.int .i64 0) (.int .i64 0) (.int .i64 0) (.int .i64 0) n1)
    have HB := Lib.hid (b1.mono (show w.heap.size ≤ _ by simp))
    have HB0 : Hid (Below w.heap.size w w') := Lib.hid (below_next (below_box w _) b1)
    clear b1 n1
    go_wp2
    refine bodyPost_ret (results_file_tmp rfl _ _ w.heap.size rfl G.out.1) rfl ?_
    exact ⟨rfl, HB0.out.grown G.out.2 HB0.out.size (fun i hi => by obtain rfl := Option.some.inj hi; exact Nat.le_refl _)⟩
  | some o =>
    rw [getF_yes ho]
    obtain ⟨i, rfl, hu, hk⟩ := openAt_some ho
    have HU := Lib.hid hu
    have HK := Lib.hid hk
    clear ho h2 hu hk
    go_enter Try.func46, Try.ntmps46
    go_wp2_with fail
    refine (ffind_yes H2.out i o HU.out HK.out).mono ?_
    rintro e w' ⟨rfl, b1⟩
    obtain ⟨r0, r1, r2, r3, r4⟩ := files_row (H2.out.below b1) HU.out
    have n1 := (b1.block w.heap.size (by simp)).trans (heap_alloc_new w _)
    have x0 := cell_of_row n1 0
    have x1 := cell_of_row n1 1
    have x2 := cell_of_row n1 2
    have x3 := cell_of_row n1 3
    have x4 := cell_of_row n1 4
    have ff := fun i => frozen_of_row w' w.heap.size i _ _ n1
    have G := Lib.hid (five_set (.int .i64 o.kind) (.int .i64 o.num) (.int .i64 o.at_) (.int .i64 o.flags) (.int .i64 o.refs) n1)
    have HB0 : Hid (Below w.heap.size w w') := Lib.hid (below_next (below_box w _) b1)
    clear b1 n1
    go_wp2
    refine bodyPost_ret (results_file_tmp rfl _ _ w.heap.size rfl G.out.1) rfl ?_
    exact ⟨rfl, HB0.out.grown G.out.2 HB0.out.size (fun i hi => by obtain rfl := Option.some.inj hi; exact Nat.le_refl _)⟩
end Go.Proofs.Ytbpklbicbeckdaa
