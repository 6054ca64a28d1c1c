/- Processes in memory, and the program's small calls on them, by their walks. -/
import Derived.Test.YtnengblmcfiajaaGegippaof
import Derived.Test.YtnengblmcfiajaaMem
import Derived.Laws.MakeOwn
import Derived.Lib.MinMax
import Derived.RegionTactic
import Derived.ChangeAlike
import Derived.IntWalk
import Derived.Deep.DeepCutAuto
import Derived.Deep.CutBlock
namespace Go.Proofs.Ytnengblmcfiajaa
open Go.RowKit Go.Sort
set_option linter.unusedVariables false
set_option linter.unusedSimpArgs false
set_option maxRecDepth 100000

/-- A process; a table of them. -/
structure ProcD where
  pid : Int
  parent : Int
  state : Int
  code : Int
  til : Int
  killed : Bool
deriving DecidableEq
structure TabD where
  most : Int
  last : Int
  now : Int
  list : List ProcD
def procV (u : ProcD) : List Value := [.int .i64 u.pid, .int .i64 u.parent, .int .i64 u.state, .int .i64 u.code, .int .i64 u.til, .bool u.killed]
def procsV (l : List ProcD) : List (List Value) := l.map procV
theorem procsV_length (l : List ProcD) : (procsV l).length = l.length := by unfold procsV; rw [List.length_map]
theorem procsV_get {l : List ProcD} {i : Nat} {u : ProcD} (h : l[i]? = some u) : (procsV l)[i]? = some (procV u) := by unfold procsV; rw [List.getElem?_map, h]; rfl
theorem procsV_one (l : List ProcD) : OneRows (procsV l) := by
  intro p hp u hu
  unfold procsV at hp
  obtain ⟨x, _, rfl⟩ := List.mem_map.1 hp
  simp only [procV, List.mem_cons, List.not_mem_nil, or_false] at hu
  rcases hu with rfl | rfl | rfl | rfl | rfl | rfl <;> rfl
theorem procs_rows (fl : List ProcD) : ∀ p ∈ procsV fl, p.length = 6 := by
  intro p hp
  unfold procsV at hp
  rw [List.mem_map] at hp
  obtain ⟨u, _, rfl⟩ := hp
  rfl
def TabOk (T : TabD) : Prop := 1 ≤ T.most ∧ T.most ≤ 16 ∧ 1 ≤ T.list.length ∧ T.list.length ≤ 16 ∧ 0 ≤ T.now ∧ T.now ≤ 1099511627776 ∧ 0 ≤ T.last
def IsTable (B : Nat) (w : World) (g gs cap : Nat) (T : TabD) : Prop :=
  w.heap[g]? = some (.cells #[.int .i64 T.most, .int .i64 T.last, .int .i64 T.now, .slice (some ⟨gs, 0, none⟩) T.list.length cap] 77 (0, 0)) ∧ OwnsR' B w 40 6 (.slice (some ⟨gs, 0, none⟩) T.list.length cap) (procsV T.list) ∧ B ≤ g ∧ TabOk T
theorem cell_atT {w : World} {g : Nat} {cs : Array Value} {t : TypeId} (h : w.heap[g]? = some (.cells cs t (0, 0))) (j : Nat) : w.cell? ⟨g, j, none⟩ = cs[j]? := by
  unfold World.cell?; rw [h]; rfl
theorem frozen_atT {w : World} {g : Nat} {cs : Array Value} {t : TypeId} (h : w.heap[g]? = some (.cells cs t (0, 0))) (j : Nat) : w.frozen? ⟨g, j, none⟩ = false := by
  unfold World.frozen?; rw [h]; simp
theorem OwnsR'.apartT {B : Nat} {w : World} {e t : TypeId} {k : Nat} {v : Value} {l : List (List Value)} {g : Nat} {C : Array Value} {fr : Nat × Nat} (h : OwnsR' B w e k v l) (hg : w.heap[g]? = some (.cells C t fr)) (hne : e ≠ t) : v.ownBlock ≠ some g := by
  obtain ⟨_, _, h⟩ := h
  rcases h with ⟨rfl, _⟩ | ⟨g', cap, cur, rfl, _, hg', _⟩
  · intro h; cases h
  · intro h
    obtain rfl : g' = g := by simpa [Value.ownBlock] using h
    rw [hg] at hg'
    simp at hg'
    exact hne hg'.2.1.symm
theorem IsTable.apart {B : Nat} {w : World} {g gs cap : Nat} {T : TabD} (h : IsTable B w g gs cap T) : gs ≠ g := by
  have := h.2.1.apartT h.1 (by decide)
  intro e
  exact this (by rw [e]; rfl)
theorem IsTable.below {B : Nat} {w w' : World} {g gs cap : Nat} {T : TabD} (h : IsTable B w g gs cap T) (b : Below w.heap.size w w') : IsTable B w' g gs cap T :=
  ⟨(b.block g (Array.getElem?_eq_some_iff.1 h.1).1).trans h.1, h.2.1.below b, h.2.2⟩
theorem IsTable.less {B B' : Nat} {w : World} {g gs cap : Nat} {T : TabD} (h : IsTable B w g gs cap T) (hB : B' ≤ B) : IsTable B' w g gs cap T := ⟨h.1, h.2.1.less hB, Nat.le_trans hB h.2.2.1, h.2.2.2⟩
theorem table_facts {B : Nat} {w : World} {g gs cap : Nat} {T : TabD} (h : IsTable B w g gs cap T) : w.cell? ⟨g, 0, none⟩ = some (.int .i64 T.most) ∧ w.cell? ⟨g, 1, none⟩ = some (.int .i64 T.last) ∧ w.cell? ⟨g, 2, none⟩ = some (.int .i64 T.now) ∧ w.cell? ⟨g, 3, none⟩ = some (.slice (some ⟨gs, 0, none⟩) T.list.length cap) :=
  ⟨cell_atT h.1 0, cell_atT h.1 1, cell_atT h.1 2, cell_atT h.1 3⟩
theorem table_lt {B : Nat} {w : World} {g gs cap : Nat} {T : TabD} (h : IsTable B w g gs cap T) : g < w.heap.size ∧ gs < w.heap.size ∧ B ≤ gs := ⟨(Array.getElem?_eq_some_iff.1 h.1).1, (h.2.1.lt gs rfl).2, (h.2.1.lt gs rfl).1⟩
theorem table_row {B : Nat} {w : World} {g gs cap : Nat} {T : TabD} (h : IsTable B w g gs cap T) {i : Nat} {s : ProcD} (hu : T.list[i]? = some s) :
    w.cell? ⟨gs, i * 6, none⟩ = some (.int .i64 s.pid) ∧ w.cell? ⟨gs, i * 6 + 1, none⟩ = some (.int .i64 s.parent) ∧ w.cell? ⟨gs, i * 6 + 2, none⟩ = some (.int .i64 s.state) ∧ w.cell? ⟨gs, i * 6 + 3, none⟩ = some (.int .i64 s.code) ∧ w.cell? ⟨gs, i * 6 + 4, none⟩ = some (.int .i64 s.til) ∧ w.cell? ⟨gs, i * 6 + 5, none⟩ = some (.bool s.killed) := by
  have hh := h.2.1.head.2.2 i _ (procsV_get hu)
  exact ⟨hh 0 _ rfl, hh 1 _ rfl, hh 2 _ rfl, hh 3 _ rfl, hh 4 _ rfl, hh 5 _ rfl⟩
theorem table_free {B : Nat} {w : World} {g gs cap : Nat} {T : TabD} (h : IsTable B w g gs cap T) (j : Nat) : w.frozen? ⟨gs, j, none⟩ = false := h.2.1.frozen (procsV_length T.list) j
theorem table_reads {B : Nat} {w : World} {g gs cap : Nat} {T : TabD} (h : IsTable B w g gs cap T) : ReadsR w (some ⟨gs, 0, none⟩) 6 (procsV T.list) := by
  obtain ⟨a, c, hv, hr, _, _⟩ := h.2.1.reads
  obtain ⟨rfl, _, _⟩ := Value.slice.inj hv
  exact hr
set_option maxHeartbeats 1600000 in
theorem index_proc (l : List ProcD) (a : Option Addr) (cap : Nat) (w : World) (hr : ReadsR w a 6 (procsV l)) (hn : l.length ≤ 100000) (S : ProcD → Prop) (hS : ∀ r ∈ l, S r) (p : ProcD → Bool)
    (g : Nat) (lb : Array Value) (eg : ∀ args w, (callFunc g args).run Try.prog w = .ok (.enter g args) w) (hp : PredV g lb (fun u => .agg (procV u).toArray) S p w) :
    Calls Try.prog 73 #[.slice a l.length cap, .func (.func g) #[] lb] w fun e w' => e = .returned (.int .i64 (firstI p l)) ∧ Below w.heap.size w w' := by
  have HR := Lib.hid hr
  have HS := Lib.hid hS
  have HP := Lib.hid hp
  clear hr hS hp
  obtain ⟨n, hnn⟩ : ∃ n, l.length = n := ⟨_, rfl⟩
  obtain ⟨z, hz⟩ : ∃ z, firstI p l = z := ⟨_, rfl⟩
  rw [hnn] at hn ⊢
  rw [hz]
  have HZ := Lib.hid hz
  have HN := Lib.hid hnn
  clear hnn hz
  go_enter Try.func73, Try.ntmps73
  go_wp2
  go_loopw [8] (fun i wr => ∃ k : Nat, k ≤ n ∧ i = .int .i64 k ∧ Hid (placesL p l k = []) ∧ Hid (Below w.heap.size w wr)) (fun i _ => n - (intOf i).toNat)
  case atStart => exact ⟨0, Nat.zero_le _, rfl, rfl, Below.refl _ _⟩
  case round =>
    obtain ⟨k, hk, rfl, HO, HB⟩ := hrel
    by_cases hlt : k < n
    · obtain ⟨u, hrow⟩ : ∃ r, l[k]? = some r := ⟨_, List.getElem?_eq_getElem (by rw [HN.out]; exact hlt)⟩
      have HRS := Lib.hid (HS.out u (List.mem_of_getElem? hrow))
      have HROW := Lib.hid hrow
      obtain ⟨b, off, rfl, hb, hc⟩ := (HR.out.below HB.out).row (procsV_get hrow)
      have c0 : wr.cell? ⟨b, off + k * 6, none⟩ = some (.int .i64 u.pid) := hc 0 _ rfl
      have c1 : wr.cell? ⟨b, off + k * 6 + 1, none⟩ = some (.int .i64 u.parent) := by have := hc 1 _ rfl; rwa [← Nat.add_assoc] at this
      have c2 : wr.cell? ⟨b, off + k * 6 + 2, none⟩ = some (.int .i64 u.state) := by have := hc 2 _ rfl; rwa [← Nat.add_assoc] at this
      have c3 : wr.cell? ⟨b, off + k * 6 + 3, none⟩ = some (.int .i64 u.code) := by have := hc 3 _ rfl; rwa [← Nat.add_assoc] at this
      have c4 : wr.cell? ⟨b, off + k * 6 + 4, none⟩ = some (.int .i64 u.til) := by have := hc 4 _ rfl; rwa [← Nat.add_assoc] at this
      have c5 : wr.cell? ⟨b, off + k * 6 + 5, none⟩ = some (.bool u.killed) := by have := hc 5 _ rfl; rwa [← Nat.add_assoc] at this
      clear hc hrow hb
      have hcall := fun W hW => HP.out W u HRS.out hW
      have hx1 : (0 : Int) ≤ (k : Int) := by omega
      have hx2 : (k : Int) < (n : Int) := by omega
      cases hpu : p u with
      | true =>
        simp only [hpu] at hcall
        have HZ2 : Hid (z = k) := by show _ = _; rw [← HZ.out]; exact firstI_hit HO.out HROW.out hpu
        clear hpu
        go_wp2_with (go_at_fn g; refine (hcall _ HB.out).mono ?_; rintro e w1 ⟨rfl, b1⟩)
        go_ret
        exact ⟨ret_int HZ2.out.symm, below_next HB.out b1⟩
      | false =>
        simp only [hpu] at hcall
        have HNext : Hid (placesL p l (k + 1) = []) := (placesL_no HROW.out hpu).trans HO.out
        clear hpu
        go_wp2_with (go_at_fn g; refine (hcall _ HB.out).mono ?_; rintro e w1 ⟨rfl, b1⟩)
        go_roundw
        case rel => exact ⟨k + 1, by omega, by go_num, HNext, below_next HB.out b1⟩
        case measure => simp [intOf]; omega
    · have hkn : k = n := by omega
      subst hkn
      go_wp2
      go_ret
      refine ⟨ret_int ?_, HB.out⟩
      rw [← HZ.out]
      unfold firstI
      rw [HN.out, HO.out]
/-- Where one of a Pid is. -/
def pidB (n : Int) (u : ProcD) : Bool := decide (u.pid = n)
def findI (l : List ProcD) (n : Int) : Int := firstI (pidB n) l
theorem enters_find1 (args : Array Value) (w : World) : (callFunc 83 args).run Try.prog w = .ok (.enter 83 args) w := enters_of Try.func83 (by kernel_rfl) rfl args w
theorem beq_dec (x y : Int) : (x == y) = decide (x = y) := by rw [Bool.eq_iff_iff]; simp
theorem run_eql_int (x y : Int) (W : World) : (binOp .eql 3 (.int .i64 x) (.int .i64 y)).run Try.prog W = .ok (.bool (decide (x = y))) W := by
  have : (x == y) = decide (x = y) := by rw [Bool.eq_iff_iff]; simp
  simp [binOp, Op.intCmp, this]
set_option maxHeartbeats 1600000 in
theorem pid_pred {w : World} {bp : Nat} {n : Int} (hb : bp < w.heap.size) (h : w.cell? ⟨bp, 0, none⟩ = some (.int .i64 n)) : PredV 83 #[.pointer (some ⟨bp, 0, none⟩)] (fun s => .agg (procV s).toArray) (fun _ => True) (pidB n) w := by
  intro W s _ hB
  have hc := (hB.cell (p := ⟨bp, 0, none⟩) hb).trans h
  have hbW : bp < W.heap.size := Nat.lt_of_lt_of_le hb hB.size
  have b0 := below_box W (.cells #[.int .i64 s.pid, .int .i64 s.parent, .int .i64 s.state, .int .i64 s.code, .int .i64 s.til, .bool s.killed] 40)
  have hc2 := (b0.cell (p := ⟨bp, 0, none⟩) hbW).trans hc
  clear hB h hb hc
  have hq := run_eql_int s.pid n
  show Calls Try.prog 83 #[.agg #[.int .i64 s.pid, .int .i64 s.parent, .int .i64 s.state, .int .i64 s.code, .int .i64 s.til, .bool s.killed], .pointer (some ⟨bp, 0, none⟩)] W fun e w' => e = .returned (.bool (decide (s.pid = n))) ∧ Below W.heap.size W w'
  clear hq
  go_enter Try.func83, Try.ntmps83
  go_wp2
  go_ret
  refine ⟨?_, b0⟩
  show Ending.returned (.bool (s.pid == n)) = _
  rw [beq_dec]
set_option maxHeartbeats 1600000 in
theorem tfind_yes {B : Nat} {w : World} {g gs cap : Nat} {T : TabD} (h : IsTable B w g gs cap T) (n : Int) (i : Nat) (s : ProcD) (hi : findI T.list n = (i : Int)) (hu : T.list[i]? = some s) :
    Calls Try.prog 47 #[.pointer (some ⟨g, 0, none⟩), .int .i64 n] w fun e w' => e = .returned (.tuple #[.pointer (some ⟨gs, i * 6, none⟩), .int .i64 0]) ∧ Below w.heap.size w w' := by
  have b0 := below_box w (.cells #[.int .i64 n] 3)
  have n0 := heap_alloc_new w (.cells #[.int .i64 n] 3)
  have h0 := h.below b0
  obtain ⟨bp, hbp⟩ : ∃ x, w.heap.size = x := ⟨_, rfl⟩
  obtain ⟨w1, hw1⟩ : ∃ x, w.alloc (.cells #[.int .i64 n] 3) = x := ⟨_, rfl⟩
  rw [hw1] at b0 n0 h0
  rw [hbp] at n0
  obtain ⟨c0, c1, c2, c3⟩ := table_facts h0
  have hil := (List.getElem?_eq_some_iff.1 hu).1
  have hlen := h.2.2.2.2.2.2.1
  have HIX := Lib.hid (index_proc T.list (some ⟨gs, 0, none⟩) cap w1 (table_reads h0) (by omega) (fun _ => True) (fun _ _ => trivial) (pidB n) 83 #[.pointer (some ⟨bp, 0, none⟩)] enters_find1 (pid_pred (Array.getElem?_eq_some_iff.1 n0).1 (cell_atT n0 0)))
  have H0 := Lib.hid h0
  have HB0 := Lib.hid b0
  unfold findI at hi
  rw [hi] at HIX
  obtain ⟨L, hL⟩ : ∃ L, T.list.length = L := ⟨_, rfl⟩
  rw [hL] at hil HIX c3 hlen
  have HL := Lib.hid hL
  have hx0 : (0 : Int) ≤ (i : Int) := by omega
  have hx1 : (i : Int) < (L : Int) := by omega
  have hx2 : ¬ (i : Int) < 0 := by omega
  clear h h0 b0 hu hi hL c0 c1 c2 n0
  go_enter Try.func47, Try.ntmps47
  go_wp2_with fail
  refine HIX.out.mono ?_
  rintro e w2 ⟨rfl, b2⟩
  have c3' := (table_facts (H0.out.below b2)).2.2.2
  rw [HL.out] at c3'
  have HB2 := Lib.hid (below_next HB0.out b2)
  clear b2 c3 hw1
  go_wp2
  go_ret2
  exact ⟨rfl, HB2.out⟩
set_option maxHeartbeats 1600000 in
theorem tfind_no {B : Nat} {w : World} {g gs cap : Nat} {T : TabD} (h : IsTable B w g gs cap T) (n : Int) (hi : findI T.list n = -1) :
    Calls Try.prog 47 #[.pointer (some ⟨g, 0, none⟩), .int .i64 n] w fun e w' => e = .returned (.tuple #[.pointer none, .int .i64 18]) ∧ Below w.heap.size w w' := by
  have b0 := below_box w (.cells #[.int .i64 n] 3)
  have n0 := heap_alloc_new w (.cells #[.int .i64 n] 3)
  have h0 := h.below b0
  obtain ⟨bp, hbp⟩ : ∃ x, w.heap.size = x := ⟨_, rfl⟩
  obtain ⟨w1, hw1⟩ : ∃ x, w.alloc (.cells #[.int .i64 n] 3) = x := ⟨_, rfl⟩
  rw [hw1] at b0 n0 h0
  rw [hbp] at n0
  obtain ⟨c0, c1, c2, c3⟩ := table_facts h0
  have hlen := h.2.2.2.2.2.2.1
  have HIX := Lib.hid (index_proc T.list (some ⟨gs, 0, none⟩) cap w1 (table_reads h0) (by omega) (fun _ => True) (fun _ _ => trivial) (pidB n) 83 #[.pointer (some ⟨bp, 0, none⟩)] enters_find1 (pid_pred (Array.getElem?_eq_some_iff.1 n0).1 (cell_atT n0 0)))
  have HB0 := Lib.hid b0
  unfold findI at hi
  rw [hi] at HIX
  clear h h0 b0 hi c0 c1 c2 n0
  go_enter Try.func47, Try.ntmps47
  go_wp2_with fail
  refine HIX.out.mono ?_
  rintro e w2 ⟨rfl, b2⟩
  have HB2 := Lib.hid (below_next HB0.out b2)
  clear b2 c3 hw1
  go_wp2
  go_ret2
  exact ⟨rfl, HB2.out⟩
end Go.Proofs.Ytnengblmcfiajaa
