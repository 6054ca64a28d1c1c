/- The document's disk: deeds, arming. -/
import Derived.Test.YthainmbapikjiaaGkgojahoh
import Derived.Test.YthainmbapikjiaaGheienjho
namespace Go.Proofs.Ythainmbapikjiaa
open Go.RowKit Go.Sort
set_option linter.unusedVariables false
set_option linter.unusedSimpArgs false
set_option maxRecDepth 100000

theorem size_ref : (Try.prog.info? 28).map (·.size) = some 5 := by kernel_rfl
theorem row_ref : ∃ d, Try.prog.underlying 28 = some d ∧ d.isRow = true := by
  cases h : Try.prog.underlying 28 with
  | none => exact absurd h (by decide)
  | some d =>
    refine ⟨d, rfl, ?_⟩
    have : (Try.prog.underlying 28).map (·.isRow) = some true := by kernel_rfl
    rw [h] at this
    simpa using this
def Five (w : World) (g : Nat) (a b c d e : Value) : Prop := w.cell? ⟨g, 0, none⟩ = some a ∧ w.cell? ⟨g, 1, none⟩ = some b ∧ w.cell? ⟨g, 2, none⟩ = some c ∧ w.cell? ⟨g, 3, none⟩ = some d ∧ w.cell? ⟨g, 4, none⟩ = some e
theorem load_five {w : World} {g : Nat} {a b c d e : Value} (h : Five w g a b c d e) : (loadVar 28 ⟨g, 0, none⟩).run Try.prog w = .ok (.agg #[a, b, c, d, e]) w := by
  obtain ⟨t, ht, hr⟩ := row_ref
  obtain ⟨h0, h1, h2, h3, h4⟩ := h
  refine run_loadVar_mid w g 0 28 [a, b, c, d, e] t (fun j v hv => ?_) ht hr size_ref
  rw [Nat.zero_add]
  match j, hv with
  | 0, hv => cases hv; exact h0
  | 1, hv => cases hv; exact h1
  | 2, hv => cases hv; exact h2
  | 3, hv => cases hv; exact h3
  | 4, hv => cases hv; exact h4
theorem results_five_tmp {fn : Func} {p u : Tmp} (h : fn.results = #[.cell p 28, .tmp u]) (tmps : Array Value) (w : World) (g : Nat) {a b c d e : Value} (hp : tmps.getD p undef = .pointer (some ⟨g, 0, none⟩)) (hf : Five w g a b c d e) :
    (results fn tmps).run Try.prog w = .ok (.tuple #[.agg #[a, b, c, d, e], tmps.getD u undef]) w := by
  rw [results_cell_tmp h, hp]
  simp only [asAddr, Sem.run_pure, Result.andThen_ok, load_five hf]
theorem results_five {fn : Func} {p : Tmp} (h : fn.results = #[.cell p 28]) (tmps : Array Value) (w : World) (g : Nat) {a b c d e : Value} (hp : tmps.getD p undef = .pointer (some ⟨g, 0, none⟩)) (hf : Five w g a b c d e) :
    (results fn tmps).run Try.prog w = .ok (.agg #[a, b, c, d, e]) w := by
  have hp' : tmps[p]?.getD undef = .pointer (some ⟨g, 0, none⟩) := by simpa using hp
  simp [results, h, hp', asAddr, load_five hf]

def armI (D : DiskD) : Int := if D.armed then D.left else -1

theorem cell_alloc_top (w : World) (cs : Array Value) (t : TypeId) (i : Nat) : (w.alloc (.cells cs t)).cell? ⟨w.heap.size, i, none⟩ = cs[i]? := by
  unfold World.cell?
  rw [heap_alloc_new]
  rfl
theorem five_top (w : World) (t : TypeId) (a b c d e : Value) : Five (w.alloc (.cells #[a, b, c, d, e] t)) w.heap.size a b c d e :=
  ⟨cell_alloc_top .., cell_alloc_top .., cell_alloc_top .., cell_alloc_top .., cell_alloc_top ..⟩
theorem five_top2 (w : World) (o : Obj) (t : TypeId) (a b c d e : Value) : Five ((w.alloc o).alloc (.cells #[a, b, c, d, e] t)) (w.heap.size + 1) a b c d e := by
  have := five_top (w.alloc o) t a b c d e
  rwa [World.size_alloc] at this
theorem below_two (w : World) (o o' : Obj) : Below w.heap.size w ((w.alloc o).alloc o') := below_next (below_box w o) (below_box _ o')

theorem rdeed_plain (sa : Option Addr) (sn sc : Nat) (qa : Option Addr) (qn qc : Nat) (arm dn : Int) (w : World) (hdn : 0 ≤ dn ∧ dn < 1000000) (ha : arm ≤ 9223372036854775807) :
    Calls Try.prog 118 #[refV sa sn sc qa qn qc false arm dn] w fun e w' => e = .returned (.tuple #[refV sa sn sc qa qn qc (decide (arm = 0)) (if 0 < arm then arm - 1 else arm) (if arm = 0 then dn else dn + 1), .int .i64 (if arm = 0 then 20 else 0)]) ∧ Below w.heap.size w w' := by
  obtain ⟨hd1, hd2⟩ := hdn
  unfold refV
  by_cases h0 : arm = 0
  · subst h0
    go_enter Try.func118, Try.ntmps118
    go_wp2
    refine bodyPost_ret (results_five_tmp rfl _ _ (w.heap.size + 1) rfl (five_top2 _ _ _ _ _ _ _ _)) rfl ?_
    exact ⟨rfl, below_two _ _ _⟩
  by_cases h1 : 0 < arm
  · have e1 : decide (arm = 0) = false := decide_eq_false h0
    have e2 : (if 0 < arm then arm - 1 else arm) = arm - 1 := if_pos h1
    have e3 : (if arm = 0 then dn else dn + 1) = dn + 1 := if_neg h0
    have e4 : (if arm = 0 then (20 : Int) else 0) = 0 := if_neg h0
    rw [e1, e2, e3, e4]
    have hb : (arm == 0) = false := by simpa using h0
    clear e1 e2 e3 e4
    go_enter Try.func118, Try.ntmps118
    go_wp2
    refine bodyPost_ret (results_five_tmp rfl _ _ (w.heap.size + 1) rfl (five_top2 _ _ _ _ _ _ _ _)) rfl ?_
    exact ⟨rfl, below_two _ _ _⟩
  · have e1 : decide (arm = 0) = false := decide_eq_false h0
    have e2 : (if 0 < arm then arm - 1 else arm) = arm := if_neg h1
    have e3 : (if arm = 0 then dn else dn + 1) = dn + 1 := if_neg h0
    have e4 : (if arm = 0 then (20 : Int) else 0) = 0 := if_neg h0
    rw [e1, e2, e3, e4]
    have hb : (arm == 0) = false := by simpa using h0
    clear e1 e2 e3 e4
    go_enter Try.func118, Try.ntmps118
    go_wp2
    refine bodyPost_ret (results_five_tmp rfl _ _ (w.heap.size + 1) rfl (five_top2 _ _ _ _ _ _ _ _)) rfl ?_
    exact ⟨rfl, below_two _ _ _⟩

theorem armI_deed {D : DiskD} (hd : D.dead = false) : (deedD D).dead = decide (armI D = 0) ∧ armI (deedD D) = (if 0 < armI D then armI D - 1 else armI D) ∧ (((deedD D).deeds : Nat) : Int) = (if armI D = 0 then (D.deeds : Int) else D.deeds + 1) ∧ deedE D = (if armI D = 0 then 20 else 0) := by
  cases ha : D.armed with
  | false =>
    have hs : strikeB D = false := by unfold strikeB; rw [hd, ha]; rfl
    have e1 : armI D = -1 := by unfold armI; rw [ha]; rfl
    have e0 : deedD D = { strikeD D with deeds := D.deeds + 1 } := by unfold deedD; rw [if_neg (by rw [hs]; decide)]
    rw [e1, e0]
    refine ⟨hs, ?_, by simp, by unfold deedE; rw [hs]; rfl⟩
    unfold armI
    show (if D.armed then _ else _) = _
    rw [ha]; rfl
  | true =>
    have e1 : armI D = D.left := by unfold armI; rw [ha]; rfl
    by_cases hl : D.left = 0
    · have hs : strikeB D = true := by unfold strikeB; rw [hd, ha, hl]; rfl
      have e0 : deedD D = strikeD D := if_pos hs
      rw [e1, e0, hl]
      refine ⟨hs, ?_, rfl, by unfold deedE; rw [hs]; rfl⟩
      unfold armI
      show (if D.armed then (((if D.armed && !strikeB D then D.left - 1 else D.left) : Nat) : Int) else _) = _
      rw [ha, hs, hl]; rfl
    · have hs : strikeB D = false := by unfold strikeB; rw [hd, ha]; simp [hl]
      have e0 : deedD D = { strikeD D with deeds := D.deeds + 1 } := by unfold deedD; rw [if_neg (by rw [hs]; decide)]
      rw [e1, e0]
      have hI : ¬ ((D.left : Int) = 0) := by omega
      refine ⟨?_, ?_, ?_, ?_⟩
      · rw [decide_eq_false hI]; exact hs
      · unfold armI
        show (if D.armed then (((if D.armed && !strikeB D then D.left - 1 else D.left) : Nat) : Int) else _) = _
        rw [ha, hs, if_pos (show 0 < (D.left : Int) by omega)]
        show (((D.left - 1 : Nat)) : Int) = _
        omega
      · rw [if_neg hI]; simp
      · rw [if_neg hI]; unfold deedE; rw [hs]; rfl

theorem rdeed_is (sa : Option Addr) (sn sc : Nat) (qa : Option Addr) (qn qc : Nat) (D : DiskD) (hok : D.ok) (hd : D.dead = false) (hdd : D.deeds < 1000000) (w : World) :
    Calls Try.prog 118 #[refV sa sn sc qa qn qc false (armI D) D.deeds] w fun e w' => e = .returned (.tuple #[refV sa sn sc qa qn qc (deedD D).dead (armI (deedD D)) (deedD D).deeds, .int .i64 (deedE D)]) ∧ Below w.heap.size w w' := by
  obtain ⟨e1, e2, e3, e4⟩ := armI_deed hd
  rw [e1, e2, e3, e4]
  refine rdeed_plain sa sn sc qa qn qc (armI D) D.deeds w (by omega) ?_
  unfold armI
  split
  · have := hok.2.2.2.2.2.2; omega
  · omega

theorem rarm_is (sa : Option Addr) (sn sc : Nat) (qa : Option Addr) (qn qc : Nat) (D : DiskD) (n : Int) (w : World) :
    Calls Try.prog 62 #[refV sa sn sc qa qn qc D.dead (armI D) D.deeds, .int .i64 n] w fun e w' => e = .returned (refV sa sn sc qa qn qc (armD D n).dead (armI (armD D n)) (armD D n).deeds) ∧ Below w.heap.size w w' := by
  cases hd : D.dead with
  | true =>
    have e : armD D n = D := if_pos hd
    rw [e, hd]
    generalize armI D = ai
    generalize (D.deeds : Int) = dn
    clear e hd
    unfold refV
    go_enter Try.func62, Try.ntmps62
    go_wp2
    refine bodyPost_ret (results_five rfl _ _ (w.heap.size + 1) rfl (five_top2 _ _ _ _ _ _ _ _)) rfl ?_
    exact ⟨rfl, below_two _ _ _⟩
  | false =>
    have e : armD D n = { D with dead := false, armed := decide (0 ≤ n), left := n.toNat } := by unfold armD; rw [if_neg (by rw [hd]; decide)]
    have e1 : (armD D n).dead = false := by rw [e]
    have e2 : (armD D n).deeds = D.deeds := by rw [e]
    have e3 : armI (armD D n) = if n < 0 then -1 else n := by
      rw [e]
      unfold armI
      by_cases hn : n < 0
      · rw [if_pos hn]
        show (if decide (0 ≤ n) = true then _ else _) = _
        rw [decide_eq_false (by omega)]; rfl
      · rw [if_neg hn]
        show (if decide (0 ≤ n) = true then ((n.toNat : Nat) : Int) else _) = _
        rw [decide_eq_true (by omega), if_pos rfl]; omega
    rw [e1, e2, e3]
    generalize armI D = ai
    generalize (D.deeds : Int) = dn
    clear e e1 e2 e3 hd
    unfold refV
    by_cases hn : n < 0
    · rw [if_pos hn]
      go_enter Try.func62, Try.ntmps62
      go_wp2
      refine bodyPost_ret (results_five rfl _ _ (w.heap.size + 1) rfl (five_top2 _ _ _ _ _ _ _ _)) rfl ?_
      exact ⟨rfl, below_two _ _ _⟩
    · rw [if_neg hn]
      go_enter Try.func62, Try.ntmps62
      go_wp2
      refine bodyPost_ret (results_five rfl _ _ (w.heap.size + 1) rfl (five_top2 _ _ _ _ _ _ _ _)) rfl ?_
      exact ⟨rfl, below_two _ _ _⟩
end Go.Proofs.Ythainmbapikjiaa
