/- Are two disks alike? The program's Same. -/
import Derived.Test.YthainmbapikjiaaGcpefjkef
namespace Go.Proofs.Ythainmbapikjiaa
open Go.ChangeShapes Go.WideShapes Go.ChangeAt Go.RowKit Go.Sort
set_option linter.unusedVariables false
set_option linter.unusedSimpArgs false
set_option maxRecDepth 100000

theorem equal_wr_no (a a' : Option Addr) (n n' c c' : Nat) (h : n ≠ n') (w : World) :
    Calls Try.prog 66 #[.slice a n c, .slice a' n' c'] w fun e w' => e = .returned (.bool false) ∧ Below w.heap.size w w' := by
  have h1 : ¬ (n : Int) = (n' : Int) := by omega
  clear h
  go_enter Try.func66, Try.ntmps66
  go_wp2
  go_ret
  exact ⟨rfl, Below.refl _ _⟩
theorem stood_health : Try.prog.stoodInHeld 122 = false := by kernel_rfl
set_option maxHeartbeats 1600000 in
theorem run_eql_health (a b c d : Bool) (m n : Int) (w : World) : (binOp .eql 122 (.agg #[.bool a, .bool b, .int .i64 m]) (.agg #[.bool c, .bool d, .int .i64 n])).run Try.prog w = .ok (.bool (decide (a = c ∧ b = d ∧ m = n))) w := by
  by_cases h : m = n
  · subst h
    cases a <;> cases b <;> cases c <;> cases d <;> go_simp
  · have e : (m == n) = false := by simp [h]
    cases a <;> cases b <;> cases c <;> cases d <;> go_simp <;> simp [h]
def alikeB (D E : DiskD) : Bool := decide (D.dead = E.dead ∧ D.armed = E.armed ∧ (D.left : Int) = (E.left : Int)) && (decide (D.cache = E.cache) && decide (D.secs = E.secs))
set_option maxHeartbeats 1600000 in
theorem same_is {B B' : Nat} {w : World} {g gs g' gs' : Nat} {cv cv' : Value} {D E : DiskD} (hd : IsDisk B w g gs cv D) (ht : IsDisk B' w g' gs' cv' E) (hlen : D.secs.length = E.secs.length) :
    Calls Try.prog 14 #[.pointer (some ⟨g, 0, none⟩), .pointer (some ⟨g', 0, none⟩)] w fun e w' => e = .returned (.bool (alikeB D E)) ∧ Below w.heap.size w w' := by
  obtain ⟨c0, c1, c2, c3, c4, c5⟩ := head_facts hd.1
  obtain ⟨d0, d1, d2, d3, d4, d5⟩ := head_facts ht.1
  have hcd := (disk_cache hd)
  have hct := (disk_cache ht)
  obtain ⟨a1, k1, rfl, r1, _, _⟩ := hcd.reads
  obtain ⟨a2, k2, rfl, r2, _, _⟩ := hct.reads
  have hw1 : (rowsW D.cache).length = D.cache.length := by unfold rowsW; rw [List.length_map]
  have hw2 : (rowsW E.cache).length = E.cache.length := by unfold rowsW; rw [List.length_map]
  rw [hw1] at c4
  rw [hw2] at d4
  have HEW : Hid (∀ W, Below w.heap.size w W → Calls Try.prog 66 #[.slice a1 D.cache.length k1, .slice a2 E.cache.length k2] W fun e w' => e = .returned (.bool (decide (D.cache = E.cache))) ∧ Below W.heap.size W w') := Lib.hid (fun W b => by
    by_cases hn : D.cache.length = E.cache.length
    · obtain ⟨N, hN⟩ : ∃ N, E.cache.length = N := ⟨_, rfl⟩
      rw [hn, hN]
      exact equal_wr a1 a2 k1 k2 N D.cache E.cache (fun s hs => (hd.2.2.2.1.2.1 s hs).2.1) (fun s hs => (ht.2.2.2.1.2.1 s hs).2.1) (hn.trans hN) hN (by rw [← hN]; exact ht.2.2.2.1.2.2.2.2.1) W (r1.below b) (r2.below b)
    · rw [decide_eq_false (fun e => hn (congrArg List.length e))]
      exact equal_wr_no a1 a2 _ _ k1 k2 hn W)
  have HES : Hid (∀ W, Below w.heap.size w W → Calls Try.prog 67 #[.slice (some ⟨gs, 0, none⟩) D.secs.length D.room, .slice (some ⟨gs', 0, none⟩) E.secs.length E.room] W fun e w' => e = .returned (.bool (decide (D.secs = E.secs))) ∧ Below W.heap.size W w') := Lib.hid (fun W b => by
    obtain ⟨N, hN⟩ : ∃ N, E.secs.length = N := ⟨_, rfl⟩
    rw [hlen, hN]
    exact equal_secs gs 0 D.room gs' 0 E.room N D.secs E.secs (fun s hs => (hd.2.2.2.1.1 s hs).1) (fun s hs => (ht.2.2.2.1.1 s hs).1) (hlen.trans hN) hN (by rw [← hN]; exact ht.2.2.2.1.2.2.2.1) W ((disk_rows hd).below b) ((disk_rows ht).below b))
  have l0 := cell_regrown c0
  have l1 := cell_regrown c1
  have l2 := cell_regrown c2
  have l3 := cell_regrown c3
  have l4 := cell_regrown c4
  have m0 := cell_regrown d0
  have m1 := cell_regrown d1
  have m2 := cell_regrown d2
  have m3 := cell_regrown d3
  have m4 := cell_regrown d4
  have hh := run_eql_health D.dead D.armed E.dead E.armed (D.left : Int) (E.left : Int)
  obtain ⟨h1, hh1⟩ : ∃ x, decide (D.dead = E.dead ∧ D.armed = E.armed ∧ (D.left : Int) = (E.left : Int)) = x := ⟨_, rfl⟩
  obtain ⟨h2, hh2⟩ : ∃ x, decide (D.cache = E.cache) = x := ⟨_, rfl⟩
  obtain ⟨h3, hh3⟩ : ∃ x, decide (D.secs = E.secs) = x := ⟨_, rfl⟩
  unfold alikeB
  rw [hh1, hh2, hh3]
  have hh' : ∀ D1 D2 E1 E2 : Bool, ∀ x y : Int, True := fun _ _ _ _ _ _ => trivial
  rw [hh1] at hh
  rw [hh2] at HEW
  rw [hh3] at HES
  clear hh' hh1 hh2 hh3 c0 c1 c2 c3 c4 c5 d0 d1 d2 d3 d4 d5 hcd hct r1 r2 hw1 hw2 hd ht hlen
  rcases h1 with _ | _
  · show Calls _ _ _ _ fun e w' => e = .returned (.bool false) ∧ _
    go_enter Try.func14, Try.ntmps14
    go_wp2_with fail
    refine wp_region_quiet_below (by kernel_rfl) (by kernel_rfl) ?_
    repeat (first | go_big_quiet_step (first
      | (go_at_call 66; exact Calls.regrown_of (HEW.out _ (below_regrown w _ _)))
      | (go_at_call 67; exact Calls.regrown_of (HES.out _ (below_regrown w _ _)))))
    refine wpQuiet_nil (regrown_name fun w3 b3 => ?_)
    go_wp2
    go_ret
    exact ⟨rfl, b3⟩
  rcases h2 with _ | _
  · show Calls _ _ _ _ fun e w' => e = .returned (.bool false) ∧ _
    go_enter Try.func14, Try.ntmps14
    go_wp2_with fail
    refine wp_region_quiet_below (by kernel_rfl) (by kernel_rfl) ?_
    repeat (first | go_big_quiet_step (first
      | (go_at_call 66; exact Calls.regrown_of (HEW.out _ (below_regrown w _ _)))
      | (go_at_call 67; exact Calls.regrown_of (HES.out _ (below_regrown w _ _)))))
    refine wpQuiet_nil (regrown_name fun w3 b3 => ?_)
    go_wp2
    go_ret
    exact ⟨rfl, b3⟩
  · show Calls _ _ _ _ fun e w' => e = .returned (.bool h3) ∧ _
    go_enter Try.func14, Try.ntmps14
    go_wp2_with fail
    refine wp_region_quiet_below (by kernel_rfl) (by kernel_rfl) ?_
    repeat (first | go_big_quiet_step (first
      | (go_at_call 66; exact Calls.regrown_of (HEW.out _ (below_regrown w _ _)))
      | (go_at_call 67; exact Calls.regrown_of (HES.out _ (below_regrown w _ _)))))
    refine wpQuiet_nil (regrown_name fun w3 b3 => ?_)
    go_wp2
    go_ret
    exact ⟨rfl, b3⟩
end Go.Proofs.Ythainmbapikjiaa
