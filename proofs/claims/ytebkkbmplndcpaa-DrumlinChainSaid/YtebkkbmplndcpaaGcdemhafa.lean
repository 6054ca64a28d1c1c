/- Pipes in memory, and the program's small calls on them, by their walks. A pipe's ring: what it holds; find, room, put, take, Len, by their walks. Pipes: Len, Ends, Add, Make, Count, Write, Read, by their walks. -/
import Derived.Test.YtebkkbmplndcpaaGoldhionn
import Derived.BigFrame
import Derived.Deep.MidRow
import Derived.Test.YtebkkbmplndcpaaGbgmncbfe
import Derived.Laws.MakeOwn
import Derived.Lib.MinMax
import Derived.RegionTactic
import Derived.ChangeAlike
import Derived.IntWalk
import Derived.Deep.WholeRow
import Derived.Deep.DeepCutAuto
import Derived.Deep.CutBlock
import Derived.BigQuiet
import Derived.Deep.QuietTactic
namespace Go.Proofs.Ytebkkbmplndcpaa
open Go.RowKit Go.Sort
set_option linter.unusedVariables false
set_option linter.unusedSimpArgs false
set_option maxRecDepth 100000

/-- A pipe: its ring of 64 bytes, and its ends. -/
structure PipeD where
  bs : List Nat
  first : Nat
  count : Nat
  readers : Nat
  writers : Nat
deriving DecidableEq
def pipeV (u : PipeD) : List Value := u.bs.map byteV ++ [.int .i64 (u.first : Int), .int .i64 (u.count : Int), .int .i64 (u.readers : Int), .int .i64 (u.writers : Int)]
def okP (u : PipeD) : Prop := u.bs.length = 64 ∧ u.first < 64 ∧ u.count ≤ 64 ∧ u.readers ≤ 1000 ∧ u.writers ≤ 1000 ∧ Bytes u.bs
def zeroP : PipeD := ⟨List.replicate 64 0, 0, 0, 0, 0⟩
theorem okP_zero : okP zeroP := ⟨rfl, by decide, by decide, by decide, by decide, by intro x hx; rw [show x = 0 from List.eq_of_mem_replicate hx]; decide⟩
def thereB (u : PipeD) : Bool := decide (0 < u.readers ∨ 0 < u.writers)
def pipesV (l : List PipeD) : List (List Value) := l.map pipeV
theorem pipesV_length (l : List PipeD) : (pipesV l).length = l.length := by unfold pipesV; rw [List.length_map]
theorem pipesV_get {l : List PipeD} {i : Nat} {u : PipeD} (h : l[i]? = some u) : (pipesV l)[i]? = some (pipeV u) := by unfold pipesV; rw [List.getElem?_map, h]; rfl
theorem pipeV_length {u : PipeD} (h : okP u) : (pipeV u).length = 68 := by unfold pipeV; rw [List.length_append, List.length_map, h.1]; rfl
theorem pipeV_at {u : PipeD} (h : okP u) : (pipeV u)[64]? = some (.int .i64 (u.first : Int)) ∧ (pipeV u)[65]? = some (.int .i64 (u.count : Int)) ∧ (pipeV u)[66]? = some (.int .i64 (u.readers : Int)) ∧ (pipeV u)[67]? = some (.int .i64 (u.writers : Int)) := by
  have hl : (u.bs.map byteV).length = 64 := by rw [List.length_map, h.1]
  unfold pipeV
  refine ⟨?_, ?_, ?_, ?_⟩ <;> rw [List.getElem?_append_right (by omega), hl] <;> rfl
theorem pipeV_byte {u : PipeD} (h : okP u) {j : Nat} (hj : j < 64) : (pipeV u)[j]? = some (byteV (u.bs.getD j 0)) := by
  have hl : (u.bs.map byteV).length = 64 := by rw [List.length_map, h.1]
  unfold pipeV
  rw [List.getElem?_append_left (by omega), List.getElem?_map, List.getD_eq_getElem?_getD, List.getElem?_eq_getElem (by rw [h.1]; exact hj)]
  rfl
theorem pipeV_one (u : PipeD) : ∀ v ∈ pipeV u, v.oneCell' = true := by
  intro v hv
  unfold pipeV at hv
  rcases List.mem_append.1 hv with hv | hv
  · obtain ⟨x, _, rfl⟩ := List.mem_map.1 hv; rfl
  · simp only [List.mem_cons, List.not_mem_nil, or_false] at hv
    rcases hv with rfl | rfl | rfl | rfl <;> rfl
theorem load_mid_wantP {ops : Array Oper} {rest : List Oper} {op : Oper} {a : Act} {w : World} {Q : Exit → Act → World → Prop} (hw : Region.wanted op (yielded ops a.tmps) = true) (ty : TypeId) (x : Operand) (ho : op.op = .load ty x)
    (b o : Nat) (hx : a.eval x = .pointer (some ⟨b, o, none⟩)) (cs : List Value) (d : TypeDesc) (hc : w.rangeAt b o cs)
    (hu : Try.prog.underlying ty = some d) (hd : d.isRow = true) (hi : (Try.prog.info? ty).map (·.size) = some cs.length)
    (h : wpList Try.prog ops Q rest (a.put op.dst (.agg cs.toArray)) w) : wpList Try.prog ops Q (op :: rest) a w :=
  BigFrame.wpList_want hw fun _ hK => wp_load_mid ty x ho b o hx cs d hc hu hd hi (hK _ _ h)
theorem cell_atP {w : World} {g : Nat} {cs : Array Value} {t : TypeId} (h : w.heap[g]? = some (.cells cs t (0, 0))) (j : Nat) : w.cell? ⟨g, j, none⟩ = cs[j]? := by
  unfold World.cell?; rw [h]; rfl
theorem frozen_atP {w : World} {g : Nat} {cs : Array Value} {t : TypeId} (h : w.heap[g]? = some (.cells cs t (0, 0))) (j : Nat) : w.frozen? ⟨g, j, none⟩ = false := by
  unfold World.frozen?; rw [h]; simp
theorem grown_belowP {w w1 w' : World} {row : Option Nat} (b : Below w.heap.size w w1) (h : w1.grownBy w' row) : w.grownBy w' row :=
  ⟨h.os.trans b.os, h.tape.trans b.tape, h.output.trans b.output, Nat.le_trans b.size h.size, fun j hj hne => (h.block j (Nat.lt_of_lt_of_le hj b.size) hne).trans (b.block j hj)⟩
theorem grown_ofBelowP {w w' : World} {row : Option Nat} (b : Below w.heap.size w w') : w.grownBy w' row := grown_belowP b (grown_same _ _)
theorem grown_transP {w w' w'' : World} {row : Option Nat} (h : w.grownBy w' row) (k : w'.grownBy w'' row) : w.grownBy w'' row :=
  ⟨k.os.trans h.os, k.tape.trans h.tape, k.output.trans h.output, Nat.le_trans h.size k.size, fun j hj hne => (k.block j (Nat.lt_of_lt_of_le hj h.size) hne).trans (h.block j hj hne)⟩
def IsPipes (B : Nat) (w : World) (g gs : Nat) (fl : List PipeD) : Prop :=
  w.heap[g]? = some (.cells #[.slice (some ⟨gs, 0, none⟩) fl.length fl.length] 102 (0, 0)) ∧ OwnsR' B w 108 68 (.slice (some ⟨gs, 0, none⟩) fl.length fl.length) (pipesV fl) ∧ B ≤ g ∧ 1 ≤ fl.length ∧ fl.length ≤ 64 ∧ ∀ u ∈ fl, okP u
theorem OwnsR'.apartP {B : Nat} {w : World} {e t : TypeId} {k : Nat} {v : Value} {l : List (List Value)} {g : Nat} {C : Array Value} {fr : Nat × Nat} (h : OwnsR' B w e k v l) (hg : w.heap[g]? = some (.cells C t fr)) (hne : e ≠ t) : v.ownBlock ≠ some g := by
  obtain ⟨_, _, h⟩ := h
  rcases h with ⟨rfl, _⟩ | ⟨g', cap, cur, rfl, _, hg', _⟩
  · intro h; cases h
  · intro h
    obtain rfl : g' = g := by simpa [Value.ownBlock] using h
    rw [hg] at hg'
    simp at hg'
    exact hne hg'.2.1.symm
theorem IsPipes.apart {B : Nat} {w : World} {g gs : Nat} {fl : List PipeD} (h : IsPipes B w g gs fl) : gs ≠ g := by
  have := h.2.1.apartP h.1 (by decide)
  intro e
  exact this (by rw [e]; rfl)
theorem IsPipes.below {B : Nat} {w w' : World} {g gs : Nat} {fl : List PipeD} (h : IsPipes B w g gs fl) (b : Below w.heap.size w w') : IsPipes B w' g gs fl :=
  ⟨(b.block g (Array.getElem?_eq_some_iff.1 h.1).1).trans h.1, h.2.1.below b, h.2.2⟩
theorem IsPipes.less {B B' : Nat} {w : World} {g gs : Nat} {fl : List PipeD} (h : IsPipes B w g gs fl) (hB : B' ≤ B) : IsPipes B' w g gs fl := ⟨h.1, h.2.1.less hB, Nat.le_trans hB h.2.2.1, h.2.2.2⟩
theorem pipes_facts {B : Nat} {w : World} {g gs : Nat} {fl : List PipeD} (h : IsPipes B w g gs fl) : w.cell? ⟨g, 0, none⟩ = some (.slice (some ⟨gs, 0, none⟩) fl.length fl.length) := by
  unfold World.cell?; rw [h.1]; rfl
theorem pipes_lt {B : Nat} {w : World} {g gs : Nat} {fl : List PipeD} (h : IsPipes B w g gs fl) : g < w.heap.size ∧ gs < w.heap.size ∧ B ≤ gs := ⟨(Array.getElem?_eq_some_iff.1 h.1).1, (h.2.1.lt gs rfl).2, (h.2.1.lt gs rfl).1⟩
theorem pipes_lts {B : Nat} {w : World} {g gs : Nat} {fl : List PipeD} (h : IsPipes B w g gs fl) {i : Nat} {s : PipeD} (hu : fl[i]? = some s) : okP s := h.2.2.2.2.2 s (List.mem_of_getElem? hu)
theorem pipes_row {B : Nat} {w : World} {g gs : Nat} {fl : List PipeD} (h : IsPipes B w g gs fl) {i : Nat} {s : PipeD} (hu : fl[i]? = some s) :
    w.cell? ⟨gs, i * 68 + 64, none⟩ = some (.int .i64 (s.first : Int)) ∧ w.cell? ⟨gs, i * 68 + 65, none⟩ = some (.int .i64 (s.count : Int)) ∧ w.cell? ⟨gs, i * 68 + 66, none⟩ = some (.int .i64 (s.readers : Int)) ∧ w.cell? ⟨gs, i * 68 + 67, none⟩ = some (.int .i64 (s.writers : Int)) := by
  have hh := h.2.1.head.2.2 i _ (pipesV_get hu)
  obtain ⟨h0, h1, h2, h3⟩ := pipeV_at (pipes_lts h hu)
  exact ⟨hh _ _ h0, hh _ _ h1, hh _ _ h2, hh _ _ h3⟩
theorem pipes_byte {B : Nat} {w : World} {g gs : Nat} {fl : List PipeD} (h : IsPipes B w g gs fl) {i j : Nat} {s : PipeD} (hu : fl[i]? = some s) (hj : j < 64) : w.cell? ⟨gs, i * 68 + j, none⟩ = some (byteV (s.bs.getD j 0)) :=
  h.2.1.head.2.2 i _ (pipesV_get hu) j _ (pipeV_byte (pipes_lts h hu) hj)
theorem pipes_range {B : Nat} {w : World} {g gs : Nat} {fl : List PipeD} (h : IsPipes B w g gs fl) {i : Nat} {s : PipeD} (hu : fl[i]? = some s) : w.rangeAt gs (i * 68) (pipeV s) := fun j v hv => h.2.1.head.2.2 i _ (pipesV_get hu) j v hv
theorem pipes_free {B : Nat} {w : World} {g gs : Nat} {fl : List PipeD} (h : IsPipes B w g gs fl) (j : Nat) : w.frozen? ⟨gs, j, none⟩ = false := h.2.1.frozen (pipesV_length fl) j
theorem pipes_store {B : Nat} {w : World} {g gs : Nat} {fl : List PipeD} (h : IsPipes B w g gs fl) {i j : Nat} {s s' : PipeD} (hu : fl[i]? = some s) (hj : j < 68) (x : Value) (hx : (pipeV s).set j x = pipeV s') (hok : okP s') :
    IsPipes B (w.setCell ⟨gs, i * 68 + j, none⟩ x) g gs (fl.set i s') ∧ w.grownBy (w.setCell ⟨gs, i * 68 + j, none⟩ x) (some gs) := by
  have hs := h.2.1.stored (pipesV_length fl) (pipesV_get hu) hj x
  have e : (pipesV fl).set i ((pipeV s).set j x) = pipesV (fl.set i s') := by rw [hx]; unfold pipesV; rw [List.map_set]
  rw [e] at hs
  refine ⟨⟨?_, ?_, h.2.2.1, ?_⟩, hs.2⟩
  · rw [List.length_set, ← h.1]
    exact hs.2.block g (pipes_lt h).1 (by rw [Ne, Option.some.injEq]; exact fun e => h.apart e.symm)
  · rw [List.length_set]
    exact hs.1
  · rw [List.length_set]
    refine ⟨h.2.2.2.1, h.2.2.2.2.1, fun u hu => ?_⟩
    rcases List.mem_or_eq_of_mem_set hu with hu | rfl
    · exact h.2.2.2.2.2 u hu
    · exact hok
theorem pipes_rows (fl : List PipeD) (h : ∀ u ∈ fl, okP u) : ∀ p ∈ pipesV fl, p.length = 68 := by
  intro p hp
  unfold pipesV at hp
  rw [List.mem_map] at hp
  obtain ⟨u, hu, rfl⟩ := hp
  exact pipeV_length (h u hu)
def zeroC : Array Value := (pipeV zeroP).toArray
theorem made_pipes (n : Nat) : (madeCells zeroC (n * 68)).toList = flatR (pipesV (List.replicate n zeroP)) := by
  have hall := pipes_rows (List.replicate n zeroP) (fun u hu => by rw [List.eq_of_mem_replicate hu]; exact okP_zero)
  apply List.ext_getElem?
  intro k
  rw [Array.getElem?_toList]
  by_cases hk : k < n * 68
  · have hd : k = (k / 68) * 68 + k % 68 := by omega
    have hq : k / 68 < n := by omega
    have hm : k % 68 < 68 := Nat.mod_lt _ (by decide)
    have h1 : (pipesV (List.replicate n zeroP))[k / 68]? = some (pipeV zeroP) := pipesV_get (by rw [List.getElem?_replicate, if_pos hq])
    have h2 := flatR_get hall h1 hm
    rw [← hd] at h2
    rw [h2]
    unfold madeCells
    rw [Array.getElem?_map, Array.getElem?_range, if_pos hk]
    simp only [Option.map_some]
    have hz : zeroC.size = 68 := by unfold zeroC; rw [List.size_toArray, pipeV_length okP_zero]
    rw [hz, getElem!_pos zeroC (k % 68) (by rw [hz]; exact hm)]
    unfold zeroC
    rw [List.getElem_toArray, List.getElem?_eq_getElem]
  · rw [Array.getElem?_eq_none (by rw [size_madeCells]; omega), List.getElem?_eq_none (by rw [flatR_length hall, pipesV_length, List.length_replicate]; omega)]
theorem info_pipe : (Try.prog.info? 108).map (fun i => (i.zero, i.size, i.bytes)) = some (some (.agg zeroC), 68, 96) := by kernel_rfl
theorem size_pipe : (Try.prog.info? 108).map (·.size) = some 68 := by kernel_rfl
theorem row_pipe : ∃ d, Try.prog.underlying 108 = some d ∧ d.isRow = true := by
  cases h : Try.prog.underlying 108 with
  | none => exact absurd h (by decide)
  | some d =>
    refine ⟨d, rfl, ?_⟩
    have : (Try.prog.underlying 108).map (·.isRow) = some true := by kernel_rfl
    rw [h] at this
    simpa using this
theorem run_make_rowP (n : Nat) (hn : n ≤ 200) (w : World) :
    (Instr.makeSlice 100 (.int .i64 (n : Int)) (.int .i64 (n : Int))).run Try.prog w = .ok (.slice (some ⟨w.heap.size, 0, none⟩) n n) (w.alloc (.cells (madeCells zeroC (n * 68)) 108)) := by
  obtain ⟨i0, hi, hz0, hz1, hz2⟩ := info_parts info_pipe
  have hr := run_make (P := Try.prog) w 100 108 i0 (.agg zeroC) Try.underlying100 hi hz0 .i64 .i64 n n (by omega) (by omega) (by rw [hz2]; omega) (by omega)
  simp only [Int.toNat_natCast, hz1, Value.cells] at hr
  exact hr
def PNewPost (w : World) (fl : List PipeD) (e : Ending) (w' : World) : Prop := ∃ g gs, e = .returned (.pointer (some ⟨g, 0, none⟩)) ∧ IsPipes w.heap.size w' g gs fl ∧ Below w.heap.size w w'
theorem pnew_is (m : Nat) (hm1 : 1 ≤ m) (hm2 : m ≤ 64) (w : World) : Calls Try.prog 16 #[.int .i64 (m : Int)] w (PNewPost w (List.replicate m zeroP)) := by
  have hmk := fun W => run_make_rowP m (by omega) W
  have hx : min (max (m : Int) 1) 64 = (m : Int) := by omega
  go_enter Try.func16, Try.ntmps16
  go_wp2
  rw [hx] at *
  go_ret
  refine ⟨w.heap.size + 1, w.heap.size, rfl, ⟨?_, ?_, Nat.le_succ _, by rw [List.length_replicate]; exact ⟨hm1, hm2, fun u hu => by rw [List.eq_of_mem_replicate hu]; exact okP_zero⟩⟩, ((Below.refl _ _).alloc (Nat.le_refl _) _).alloc (by simp) _⟩
  · rw [heap_alloc2_new, List.length_replicate]
  · have hl : (pipesV (List.replicate m zeroP)).length = m := by rw [pipesV_length, List.length_replicate]
    have hnew := OwnsR'.new (B := w.heap.size) (w := w) (e := 108) (k := 68) (l := pipesV (List.replicate m zeroP)) (pipes_rows _ (fun u hu => by rw [List.eq_of_mem_replicate hu]; exact okP_zero)) (Nat.le_refl _) (by rw [hl]; unfold maxLen; omega) (made_pipes m)
    rw [hl] at hnew
    rw [List.length_replicate]
    exact hnew.alloc _
set_option maxHeartbeats 1600000 in
theorem there_is (u : PipeD) (hu : okP u) (w : World) : Calls Try.prog 56 #[.agg (pipeV u).toArray] w fun e w' => e = .returned (.bool (thereB u)) ∧ Below w.heap.size w w' := by
  have n0 := heap_alloc_new w (.cells (pipeV u).toArray 108)
  obtain ⟨_, _, h2, h3⟩ := pipeV_at hu
  have x2 : (w.alloc (.cells (pipeV u).toArray 108)).cell? ⟨w.heap.size, 66, none⟩ = some (.int .i64 (u.readers : Int)) := (cell_atP n0 66).trans (by rw [List.getElem?_toArray]; exact h2)
  have x3 : (w.alloc (.cells (pipeV u).toArray 108)).cell? ⟨w.heap.size, 67, none⟩ = some (.int .i64 (u.writers : Int)) := (cell_atP n0 67).trans (by rw [List.getElem?_toArray]; exact h3)
  have hb := below_box w (.cells (pipeV u).toArray 108)
  clear n0 h2 h3
  unfold thereB
  by_cases h1 : 0 < u.readers
  · have h1' : (0 : Int) < (u.readers : Int) := by omega
    rw [decide_eq_true (Or.inl h1)]
    go_enter Try.func56, Try.ntmps56
    go_wp2
    go_ret
    exact ⟨rfl, hb⟩
  · have h1' : ¬ (0 : Int) < (u.readers : Int) := by omega
    by_cases h2 : 0 < u.writers
    · have h2' : (0 : Int) < (u.writers : Int) := by omega
      rw [decide_eq_true (Or.inr h2)]
      go_enter Try.func56, Try.ntmps56
      go_wp2
      go_ret
      exact ⟨rfl, hb⟩
    · have h2' : ¬ (0 : Int) < (u.writers : Int) := by omega
      rw [decide_eq_false (by omega)]
      go_enter Try.func56, Try.ntmps56
      go_wp2
      go_ret
      exact ⟨rfl, hb⟩
theorem enters_there (args : Array Value) (w : World) : (callFunc 56 args).run Try.prog w = .ok (.enter 56 args) w := enters_of Try.func56 (by kernel_rfl) rfl args w
theorem enters_make1 (args : Array Value) (w : World) : (callFunc 55 args).run Try.prog w = .ok (.enter 55 args) w := enters_of Try.func55 (by kernel_rfl) rfl args w
theorem there_pred (w : World) : PredV 56 #[] (fun s => .agg (pipeV s).toArray) okP thereB w := fun W s hs _ => there_is s hs W
set_option maxHeartbeats 1600000 in
theorem gone_pred (w : World) : PredV 55 #[] (fun s => .agg (pipeV s).toArray) okP (fun s => !thereB s) w := by
  intro W s hs hB
  clear hB
  show Calls Try.prog 55 #[.agg (pipeV s).toArray] W _
  have n0 := heap_alloc_new W (.cells (pipeV s).toArray 108)
  have hb := below_box W (.cells (pipeV s).toArray 108)
  have hT := Lib.hid (fun W => there_is s hs W)
  obtain ⟨d, hu, hd⟩ := row_pipe
  have hsz : (Try.prog.info? 108).map (·.size) = some (pipeV s).length := by rw [pipeV_length hs]; exact size_pipe
  have hr : (W.alloc (.cells (pipeV s).toArray 108)).rangeAt W.heap.size 0 (pipeV s) := fun j v hv => by rw [Nat.zero_add]; exact (cell_atP n0 j).trans (by rw [List.getElem?_toArray]; exact hv)
  clear n0 hs
  dsimp only
  obtain ⟨b, hb9⟩ : ∃ x, thereB s = x := ⟨_, rfl⟩
  rw [hb9] at hT ⊢
  clear hb9
  go_enter Try.func55, Try.ntmps55
  go_wp2_with (refine wpList_load_mid rfl 108 _ rfl W.heap.size 0 rfl (pipeV s) d hr hu hd hsz ?_)
  refine (hT.out _).mono ?_
  rintro e w1 ⟨rfl, b1⟩
  go_wp2
  go_ret
  exact ⟨rfl, below_next hb b1⟩
theorem pipes_reads {B : Nat} {w : World} {g gs : Nat} {fl : List PipeD} (h : IsPipes B w g gs fl) : ReadsR w (some ⟨gs, 0, none⟩) 68 (pipesV fl) := by
  obtain ⟨a, c, hv, hr, _, _⟩ := h.2.1.reads
  obtain ⟨rfl, _, _⟩ := Value.slice.inj hv
  exact hr
set_option maxHeartbeats 1600000 in
theorem index_pipe (l : List PipeD) (a : Option Addr) (cap : Nat) (w : World) (hr : ReadsR w a 68 (pipesV l)) (hn : l.length ≤ 100000) (S : PipeD → Prop) (hS : ∀ r ∈ l, S r) (hok : ∀ r ∈ l, okP r) (p : PipeD → Bool)
    (g : Nat) (lb : Array Value) (eg : ∀ args w, (callFunc g args).run Try.prog w = .ok (.enter g args) w) (hp : PredV g lb (fun u => .agg (pipeV u).toArray) S p w) :
    Calls Try.prog 54 #[.slice a l.length cap, .func (.func g) #[] lb] w fun e w' => e = .returned (.int .i64 (firstI p l)) ∧ Below w.heap.size w w' := by
  have HR := Lib.hid hr
  have HS := Lib.hid hS
  have HOKP := Lib.hid hok
  obtain ⟨d, hu9, hd9⟩ := row_pipe
  have HP := Lib.hid hp
  clear hr hS hp hok
  obtain ⟨n, hnn⟩ : ∃ n, l.length = n := ⟨_, rfl⟩
  obtain ⟨z, hz⟩ : ∃ z, firstI p l = z := ⟨_, rfl⟩
  rw [hnn] at hn ⊢
  rw [hz]
  have HZ := Lib.hid hz
  have HN := Lib.hid hnn
  clear hnn hz
  go_enter Try.func54, Try.ntmps54
  go_wp2
  go_loopw [8] (fun i wr => ∃ k : Nat, k ≤ n ∧ i = .int .i64 k ∧ Hid (placesL p l k = []) ∧ Hid (Below w.heap.size w wr)) (fun i _ => n - (intOf i).toNat)
  case atStart => exact ⟨0, Nat.zero_le _, rfl, rfl, Below.refl _ _⟩
  case round =>
    obtain ⟨k, hk, rfl, HO, HB⟩ := hrel
    by_cases hlt : k < n
    · obtain ⟨u, hrow⟩ : ∃ r, l[k]? = some r := ⟨_, List.getElem?_eq_getElem (by rw [HN.out]; exact hlt)⟩
      have HRS := Lib.hid (HS.out u (List.mem_of_getElem? hrow))
      have HROW := Lib.hid hrow
      obtain ⟨b, off, rfl, hb, hc⟩ := (HR.out.below HB.out).row (pipesV_get hrow)
      have hrr : wr.rangeAt b (off + k * 68) (pipeV u) := fun j v hv => by have := hc j v hv; rwa [← Nat.add_assoc] at this
      have hsz9 : (Try.prog.info? 108).map (·.size) = some (pipeV u).length := by rw [pipeV_length (HOKP.out u (List.mem_of_getElem? hrow))]; exact size_pipe
      have hk0 : (0 : Int) ≤ (k : Int) := by omega
      have hk1 : (k : Int) < (n : Int) := by omega
      have hsz7 : (pipeV u).toArray.size = 68 := by rw [List.size_toArray, pipeV_length (HOKP.out u (List.mem_of_getElem? hrow))]
      have hsz8 : (Try.prog.info? 108).map (·.size) = some (pipeV u).toArray.size := by rw [hsz7]; exact size_pipe
      have hold9 : (Try.zeroCells108).size = (pipeV u).toArray.size := by rw [hsz7]; kernel_rfl
      have nz9 := heap_alloc_new wr (.cells Try.zeroCells108 108)
      have e9 := World.setRow_alloc_new wr Try.zeroCells108 (pipeV u).toArray 108
      have hone9 : (pipeV u).toArray.all (·.oneCell') = true := by rw [List.all_toArray, List.all_eq_true]; exact pipeV_one u
      have hbox : (wr.alloc (.cells (pipeV u).toArray 108)).rangeAt wr.heap.size 0 (pipeV u) := fun j v hv => by rw [Nat.zero_add]; exact (cell_atP (heap_alloc_new wr _) j).trans (by rw [List.getElem?_toArray]; exact hv)
      clear hc hrow hb
      have hcall := fun W hW => HP.out W u HRS.out hW
      have hx1 : (0 : Int) ≤ (k : Int) := by omega
      have hx2 : (k : Int) < (n : Int) := by omega
      cases hpu : p u with
      | true =>
        simp only [hpu] at hcall
        have HZ2 : Hid (z = k) := by show _ = _; rw [← HZ.out]; exact firstI_hit HO.out HROW.out hpu
        clear hpu
        go_wp2_with (first | (refine wpList_load_mid (by rfl) 108 _ (by rfl) b (off + k * 68) (by rfl) (pipeV u) d hrr hu9 hd9 hsz9 ?_) | (refine wpList_store_row (by rfl) 108 _ _ (by rfl) wr.heap.size (pipeV u).toArray (by rfl) (by rfl) _ _ nz9 hsz8 hold9 hone9 ?_; rw [e9]) | (refine wpList_load_mid (by rfl) 108 _ (by rfl) wr.heap.size 0 (by rfl) (pipeV u) d hbox hu9 hd9 hsz9 ?_) | (go_at_fn g; refine (hcall _ HB.out).mono ?_; rintro e w1 ⟨rfl, b1⟩))
        go_ret
        exact ⟨ret_int HZ2.out.symm, below_next HB.out b1⟩
      | false =>
        simp only [hpu] at hcall
        have HNext : Hid (placesL p l (k + 1) = []) := (placesL_no HROW.out hpu).trans HO.out
        clear hpu
        go_wp2_with (first | (refine wpList_load_mid (by rfl) 108 _ (by rfl) b (off + k * 68) (by rfl) (pipeV u) d hrr hu9 hd9 hsz9 ?_) | (refine wpList_store_row (by rfl) 108 _ _ (by rfl) wr.heap.size (pipeV u).toArray (by rfl) (by rfl) _ _ nz9 hsz8 hold9 hone9 ?_; rw [e9]) | (refine wpList_load_mid (by rfl) 108 _ (by rfl) wr.heap.size 0 (by rfl) (pipeV u) d hbox hu9 hd9 hsz9 ?_) | (go_at_fn g; refine (hcall _ HB.out).mono ?_; rintro e w1 ⟨rfl, b1⟩))
        go_roundw
        case rel => exact ⟨k + 1, by omega, by go_num, HNext, below_next HB.out b1⟩
        case measure => simp [intOf]; omega
    · have hkn : k = n := by omega
      subst hkn
      go_wp2
      go_ret
      refine ⟨ret_int ?_, HB.out⟩
      rw [← HZ.out]
      unfold firstI
      rw [HN.out, HO.out]
end Go.Proofs.Ytebkkbmplndcpaa

namespace Go.Proofs.Ytebkkbmplndcpaa
open Go.RowKit Go.Sort
set_option linter.unusedVariables false
set_option linter.unusedSimpArgs false
set_option maxRecDepth 100000

/-- A byte more, a byte less; what is in it, the first one first. -/
def putP (s : PipeD) (c : Nat) : PipeD := { s with bs := s.bs.set ((s.first + s.count) % 64) c, count := s.count + 1 }
def takeP (s : PipeD) : PipeD := { s with first := (s.first + 1) % 64, count := s.count - 1 }
def content (s : PipeD) : List Nat := (List.range s.count).map fun k => s.bs.getD ((s.first + k) % 64) 0
theorem content_length (s : PipeD) : (content s).length = s.count := by unfold content; rw [List.length_map, List.length_range]
theorem putP_ok {s : PipeD} (h : okP s) {c : Nat} (hc : c < 256) (hk : s.count < 64) : okP (putP s c) := by
  obtain ⟨h1, h2, h3, h4, h5, h6⟩ := h
  refine ⟨by show (s.bs.set _ _).length = 64; rw [List.length_set, h1], h2, by show s.count + 1 ≤ 64; omega, h4, h5, ?_⟩
  intro x hx
  rcases List.mem_or_eq_of_mem_set hx with hx | rfl
  · exact h6 x hx
  · exact hc
theorem takeP_ok {s : PipeD} (h : okP s) : okP (takeP s) := by
  obtain ⟨h1, h2, h3, h4, h5, h6⟩ := h
  exact ⟨h1, Nat.mod_lt _ (by decide), by show s.count - 1 ≤ 64; omega, h4, h5, h6⟩
theorem content_put {s : PipeD} (h : okP s) (hk : s.count < 64) (c : Nat) : content (putP s c) = content s ++ [c] := by
  have hl := h.1
  have hf := h.2.1
  unfold content
  show (List.range (s.count + 1)).map (fun k => (s.bs.set ((s.first + s.count) % 64) c).getD ((s.first + k) % 64) 0) = _
  rw [List.range_succ, List.map_append, List.map_cons, List.map_nil]
  congr 1
  · refine List.map_congr_left fun k hk2 => ?_
    rw [List.mem_range] at hk2
    have hne : (s.first + s.count) % 64 ≠ (s.first + k) % 64 := by omega
    rw [List.getD_eq_getElem?_getD, List.getD_eq_getElem?_getD, List.getElem?_set_ne hne]
  · rw [List.getD_eq_getElem?_getD, List.getElem?_set_self (by rw [hl]; exact Nat.mod_lt _ (by decide))]
    rfl
theorem content_take {s : PipeD} (h : okP s) (hk : 0 < s.count) : content s = s.bs.getD s.first 0 :: content (takeP s) := by
  have hf := h.2.1
  obtain ⟨m, hm⟩ : ∃ m, s.count = m + 1 := ⟨s.count - 1, by omega⟩
  unfold content
  show _ = _ :: (List.range (s.count - 1)).map (fun k => s.bs.getD (((s.first + 1) % 64 + k) % 64) 0)
  rw [hm, List.range_succ_eq_map, List.map_cons, List.map_map]
  congr 1
  · rw [Nat.add_zero, Nat.mod_eq_of_lt hf]
  · refine List.map_congr_left fun k hk2 => ?_
    show s.bs.getD ((s.first + (k + 1)) % 64) 0 = _
    congr 1
    omega
theorem content_bytes {s : PipeD} (h : okP s) : Bytes (content s) := by
  intro x hx
  unfold content at hx
  obtain ⟨k, _, rfl⟩ := List.mem_map.1 hx
  rw [List.getD_eq_getElem?_getD, List.getElem?_eq_getElem (by rw [h.1]; exact Nat.mod_lt _ (by decide))]
  exact h.2.2.2.2.2 _ (List.getElem_mem _)
theorem pipeV_setb (s : PipeD) (h : okP s) {j : Nat} (hj : j < 64) (c : Nat) : (pipeV s).set j (.int .u8 (c : Int)) = pipeV { s with bs := s.bs.set j c } := by
  unfold pipeV
  rw [List.set_append_left _ _ (by rw [List.length_map, h.1]; exact hj)]
  show _ = (s.bs.set j c).map byteV ++ _
  rw [List.map_set]
  rfl
theorem pipeV_sets (s : PipeD) (h : okP s) : (∀ n : Nat, (pipeV s).set 64 (.int .i64 (n : Int)) = pipeV { s with first := n }) ∧ (∀ n : Nat, (pipeV s).set 65 (.int .i64 (n : Int)) = pipeV { s with count := n }) ∧ (∀ n : Nat, (pipeV s).set 66 (.int .i64 (n : Int)) = pipeV { s with readers := n }) ∧ (∀ n : Nat, (pipeV s).set 67 (.int .i64 (n : Int)) = pipeV { s with writers := n }) := by
  have hl : (s.bs.map byteV).length = 64 := by rw [List.length_map, h.1]
  unfold pipeV
  refine ⟨fun n => ?_, fun n => ?_, fun n => ?_, fun n => ?_⟩ <;> rw [List.set_append_right _ _ (by omega), hl] <;> rfl
set_option maxHeartbeats 1600000 in
theorem pfind_yes {B : Nat} {w : World} {g gs : Nat} {fl : List PipeD} (h : IsPipes B w g gs fl) (n : Int) (i : Nat) (hn : n = (i : Int) + 1) (s : PipeD) (hu : fl[i]? = some s) (hk : thereB s = true) :
    Calls Try.prog 63 #[.pointer (some ⟨g, 0, none⟩), .int .i64 n] w fun e w' => e = .returned (.tuple #[.pointer (some ⟨gs, i * 68, none⟩), .int .i64 0]) ∧ Below w.heap.size w w' := by
  have c0 := pipes_facts h
  have hok := pipes_lts h hu
  have hr := pipes_range h hu
  have hi := (List.getElem?_eq_some_iff.1 hu).1
  have hlen := h.2.2.2.2.1
  obtain ⟨L, hL⟩ : ∃ L, fl.length = L := ⟨_, rfl⟩
  rw [hL] at hi hlen c0
  have hlt1 : ¬ n < 1 := by omega
  have hlt2 : ¬ (L : Int) < n := by omega
  have hw1 : IntKind.i64.wrap (n - 1) = (i : Int) := by rw [IntWalk.i64_in _ (by omega)]; omega
  have hi0 : (0 : Int) ≤ (i : Int) := by omega
  have hi2 : (i : Int) < (L : Int) := by omega
  have HT := Lib.hid (fun W => there_is s hok W)
  have H := Lib.hid h
  have HL := Lib.hid hL
  obtain ⟨d, hud, hd⟩ := row_pipe
  have hsz : (Try.prog.info? 108).map (·.size) = some (pipeV s).length := by rw [pipeV_length hok]; exact size_pipe
  rw [hk] at HT
  clear h hok hu hk hi hn hL
  go_enter Try.func63, Try.ntmps63
  go_wp2_with (first
    | (refine load_mid_wantP (by rfl) 108 _ (by rfl) gs (i * 68) (by rfl) (pipeV s) d hr hud hd hsz ?_)
    | (refine wpList_load_mid (by rfl) 108 _ (by rfl) gs (i * 68) (by rfl) (pipeV s) d hr hud hd hsz ?_))
  refine (HT.out w).mono ?_
  rintro e w' ⟨rfl, b1⟩
  have c1 := pipes_facts (H.out.below b1)
  rw [HL.out] at c1
  have HB := Lib.hid b1
  clear b1 c0 hr
  go_wp2
  go_ret2
  exact ⟨rfl, HB.out⟩
/-- There is no such pipe. -/
def noPipe (fl : List PipeD) (n : Int) : Prop := n < 1 ∨ (fl.length : Int) < n ∨ ∃ (i : Nat) (s : PipeD), n = (i : Int) + 1 ∧ fl[i]? = some s ∧ thereB s = false
set_option maxHeartbeats 1600000 in
theorem pfind_no {B : Nat} {w : World} {g gs : Nat} {fl : List PipeD} (h : IsPipes B w g gs fl) (n : Int) (hn : noPipe fl n) :
    Calls Try.prog 63 #[.pointer (some ⟨g, 0, none⟩), .int .i64 n] w fun e w' => e = .returned (.tuple #[.pointer none, .int .i64 2]) ∧ Below w.heap.size w w' := by
  have c0 := pipes_facts h
  have hlen := h.2.2.2.2.1
  obtain ⟨L, hL⟩ : ∃ L, fl.length = L := ⟨_, rfl⟩
  by_cases h1 : n < 1
  · clear h hn
    go_enter Try.func63, Try.ntmps63
    go_wp2
    go_ret2
    exact ⟨rfl, Below.refl _ _⟩
  by_cases h2 : (fl.length : Int) < n
  · rw [hL] at h2 c0
    clear h hn
    go_enter Try.func63, Try.ntmps63
    go_wp2
    go_ret2
    exact ⟨rfl, Below.refl _ _⟩
  obtain ⟨i, s, hn, hu, hk⟩ : ∃ (i : Nat) (s : PipeD), n = (i : Int) + 1 ∧ fl[i]? = some s ∧ thereB s = false := by
    rcases hn with h0 | h0 | h0
    · exact absurd h0 h1
    · exact absurd h0 h2
    · exact h0
  have hok := pipes_lts h hu
  have hr := pipes_range h hu
  have hi := (List.getElem?_eq_some_iff.1 hu).1
  rw [hL] at hi hlen c0 h2
  have hw1 : IntKind.i64.wrap (n - 1) = (i : Int) := by rw [IntWalk.i64_in _ (by omega)]; omega
  have hi0 : (0 : Int) ≤ (i : Int) := by omega
  have hi2 : (i : Int) < (L : Int) := by omega
  have HT := Lib.hid (fun W => there_is s hok W)
  obtain ⟨d, hud, hd⟩ := row_pipe
  have hsz : (Try.prog.info? 108).map (·.size) = some (pipeV s).length := by rw [pipeV_length hok]; exact size_pipe
  rw [hk] at HT
  clear h hok hu hk hi hn hL
  go_enter Try.func63, Try.ntmps63
  go_wp2_with (first
    | (refine load_mid_wantP (by rfl) 108 _ (by rfl) gs (i * 68) (by rfl) (pipeV s) d hr hud hd hsz ?_)
    | (refine wpList_load_mid (by rfl) 108 _ (by rfl) gs (i * 68) (by rfl) (pipeV s) d hr hud hd hsz ?_))
  refine (HT.out w).mono ?_
  rintro e w' ⟨rfl, b1⟩
  have HB := Lib.hid b1
  clear b1 c0 hr
  go_wp2
  go_ret2
  exact ⟨rfl, HB.out⟩
theorem pipes_setself {fl : List PipeD} {i : Nat} {s : PipeD} (hu : fl[i]? = some s) : fl.set i s = fl := by
  apply List.ext_getElem?
  intro j
  by_cases h : i = j
  · subst h; rw [List.getElem?_set_self (List.getElem?_eq_some_iff.1 hu).1, hu]
  · rw [List.getElem?_set_ne h]
set_option maxHeartbeats 1600000 in
theorem room_is {B : Nat} {w : World} {g gs : Nat} {fl : List PipeD} (h : IsPipes B w g gs fl) {i : Nat} {s : PipeD} (hu : fl[i]? = some s) :
    Calls Try.prog 69 #[.pointer (some ⟨gs, i * 68, none⟩)] w fun e w' => e = .returned (.int .i64 (64 - (s.count : Int))) ∧ w = w' := by
  obtain ⟨r0, r1, r2, r3⟩ := pipes_row h hu
  have h3 := (pipes_lts h hu).2.2.1
  have hw1 : IntKind.i64.wrap (64 - (s.count : Int)) = 64 - (s.count : Int) := IntWalk.i64_in _ (by omega)
  clear h hu r0 r2 r3
  go_enter Try.func69, Try.ntmps69
  go_wp2
  go_ret
  exact ⟨rfl, rfl⟩
set_option maxHeartbeats 1600000 in
theorem ringput_is {B : Nat} {w : World} {g gs : Nat} {fl : List PipeD} (h : IsPipes B w g gs fl) {i : Nat} {s : PipeD} (hu : fl[i]? = some s) (hk : s.count < 64) (c : Nat) (hc : c < 256) :
    Calls Try.prog 70 #[.pointer (some ⟨gs, i * 68, none⟩), .int .u8 (c : Int)] w fun e w' => e = .returned (.tuple #[]) ∧ IsPipes B w' g gs (fl.set i (putP s c)) ∧ w.grownBy w' (some gs) := by
  obtain ⟨r0, r1, r2, r3⟩ := pipes_row h hu
  have hok := pipes_lts h hu
  have h2 := hok.2.1
  have hi := (List.getElem?_eq_some_iff.1 hu).1
  obtain ⟨q, hq⟩ : ∃ q, (s.first + s.count) % 64 = q := ⟨_, rfl⟩
  have hq64 : q < 64 := by omega
  have hw1 : IntKind.i64.wrap ((s.first : Int) + (s.count : Int)) = (s.first : Int) + (s.count : Int) := IntWalk.i64_in _ (by omega)
  have hw2 : Int.tmod ((s.first : Int) + (s.count : Int)) 64 = (q : Int) := by rw [Int.tmod_eq_emod_of_nonneg (by omega)]; omega
  have hw3 : IntKind.i64.wrap ((s.count : Int) + 1) = (s.count : Int) + 1 := IntWalk.i64_in _ (by omega)
  have hq0 : (0 : Int) ≤ (q : Int) := by omega
  have hq1 : (q : Int) < 64 := by omega
  have yb := pipes_byte h hu hq64
  have fb := pipes_free h (i * 68 + q)
  have s1 := pipes_store (j := q) h hu (by omega) (.int .u8 (c : Int)) (pipeV_setb s hok hq64 c) (by
    obtain ⟨k1, k2, k3, k4, k5, k6⟩ := hok
    refine ⟨by show (s.bs.set _ _).length = 64; rw [List.length_set, k1], k2, k3, k4, k5, ?_⟩
    intro x hx
    rcases List.mem_or_eq_of_mem_set hx with hx | rfl
    · exact k6 x hx
    · exact hc)
  obtain ⟨W2, hW2⟩ : ∃ W2, W2 = (w.setCell ⟨gs, i * 68 + q, none⟩ (.int .u8 (c : Int))).drew := ⟨_, rfl⟩
  have h4 : IsPipes B W2 g gs (fl.set i { s with bs := s.bs.set q c }) := by rw [hW2]; exact s1.1.below (below_drew _)
  have g4 : w.grownBy W2 (some gs) := by rw [hW2]; exact grown_to_drew s1.2
  have hu2 : (fl.set i { s with bs := s.bs.set q c })[i]? = some { s with bs := s.bs.set q c } := List.getElem?_set_self hi
  obtain ⟨_, r12, _, _⟩ := pipes_row h4 hu2
  have fr2 := pipes_free h4 (i * 68 + 65)
  have hput : putP s c = { s with bs := s.bs.set q c, count := s.count + 1 } := by unfold putP; rw [hq]
  have hok4 := pipes_lts h4 hu2
  have s2 := pipes_store (j := 65) h4 hu2 (by decide) (.int .i64 ((s.count : Int) + 1)) (s' := { s with bs := s.bs.set q c, count := s.count + 1 }) ((pipeV_sets _ hok4).2.1 (s.count + 1)) (by rw [← hput]; exact putP_ok hok hc hk)
  rw [List.set_set, ← hput] at s2
  have HS := Lib.hid s2
  have HG := Lib.hid g4
  dsimp only at r12
  clear h hu hok s1 s2 h4 g4 hu2 hput hok4 r2 r3 hq hi
  go_enter Try.func70, Try.ntmps70
  go_wp2
  go_region
  rw [← hW2]
  clear hW2
  go_wp2
  go_end0
  exact ⟨rfl, HS.out.1, grown_transP HG.out HS.out.2⟩
set_option maxHeartbeats 1600000 in
theorem ringtake_is {B : Nat} {w : World} {g gs : Nat} {fl : List PipeD} (h : IsPipes B w g gs fl) {i : Nat} {s : PipeD} (hu : fl[i]? = some s) (hk : 0 < s.count) :
    Calls Try.prog 71 #[.pointer (some ⟨gs, i * 68, none⟩)] w fun e w' => e = .returned (.int .u8 ((s.bs.getD s.first 0 : Nat) : Int)) ∧ IsPipes B w' g gs (fl.set i (takeP s)) ∧ w.grownBy w' (some gs) := by
  obtain ⟨r0, r1, r2, r3⟩ := pipes_row h hu
  have hok := pipes_lts h hu
  have h2 := hok.2.1
  have h3 := hok.2.2.1
  have hi := (List.getElem?_eq_some_iff.1 hu).1
  obtain ⟨q, hq⟩ : ∃ q, (s.first + 1) % 64 = q := ⟨_, rfl⟩
  have hw1 : IntKind.i64.wrap ((s.first : Int) + 1) = (s.first : Int) + 1 := IntWalk.i64_in _ (by omega)
  have hw2 : Int.tmod ((s.first : Int) + 1) 64 = (q : Int) := by rw [Int.tmod_eq_emod_of_nonneg (by omega)]; omega
  have hw3 : IntKind.i64.wrap ((s.count : Int) - 1) = ((s.count - 1 : Nat) : Int) := by rw [IntWalk.i64_in _ (by omega)]; omega
  have hq0 : (0 : Int) ≤ (s.first : Int) := by omega
  have hq1 : (s.first : Int) < 64 := by omega
  have yb := pipes_byte h hu h2
  obtain ⟨c, hc⟩ : ∃ c, s.bs.getD s.first 0 = c := ⟨_, rfl⟩
  rw [hc] at yb ⊢
  have h9 : Hid (∀ nq, ∃ W3, W3 = ((w.drewN nq).setCell ⟨gs, i * 68 + 64, none⟩ (.int .i64 (q : Int))).setCell ⟨gs, i * 68 + 65, none⟩ (.int .i64 ((s.count - 1 : Nat) : Int)) ∧ IsPipes B W3 g gs (fl.set i (takeP s)) ∧ w.grownBy W3 (some gs) ∧ (w.drewN nq).cell? ⟨gs, i * 68 + 64, none⟩ = some (.int .i64 (s.first : Int)) ∧ (w.drewN nq).frozen? ⟨gs, i * 68 + 64, none⟩ = false ∧ ((w.drewN nq).setCell ⟨gs, i * 68 + 64, none⟩ (.int .i64 (q : Int))).cell? ⟨gs, i * 68 + 65, none⟩ = some (.int .i64 (s.count : Int)) ∧ ((w.drewN nq).setCell ⟨gs, i * 68 + 64, none⟩ (.int .i64 (q : Int))).frozen? ⟨gs, i * 68 + 65, none⟩ = false) := Lib.hid (fun nq => by
    have k0 := h.below (below_drewN w nq)
    have s1 := pipes_store (j := 64) k0 hu (by decide) (.int .i64 (q : Int)) ((pipeV_sets s hok).1 q) (s' := { s with first := q }) ⟨hok.1, by show q < 64; omega, hok.2.2⟩
    have hu2 : (fl.set i { s with first := q })[i]? = some { s with first := q } := List.getElem?_set_self hi
    have hok2 := pipes_lts s1.1 hu2
    have htk : takeP s = { s with first := q, count := s.count - 1 } := by unfold takeP; rw [hq]
    have s2 := pipes_store (j := 65) s1.1 hu2 (by decide) (.int .i64 ((s.count - 1 : Nat) : Int)) ((pipeV_sets _ hok2).2.1 (s.count - 1)) (s' := { s with first := q, count := s.count - 1 }) (by rw [← htk]; exact takeP_ok hok)
    rw [List.set_set, ← htk] at s2
    exact ⟨_, rfl, s2.1, grown_transP (grown_transP (grown_ofBelowP (below_drewN w nq)) s1.2) s2.2, (pipes_row k0 hu).1, pipes_free k0 _, (pipes_row s1.1 hu2).2.1, pipes_free s1.1 _⟩)
  unfold byteV at yb
  clear h hu hok r2 r3 hq hi hc
  go_enter Try.func71, Try.ntmps71
  go_wp2
  go_quiet (fail)
  obtain ⟨W3, hW3, hp3, hg3, x0, f0, x1, f1⟩ := h9.out nq
  have HP := Lib.hid (And.intro hp3 hg3)
  clear hp3 hg3 r0 r1 yb h9
  go_wp2
  rw [← hW3]
  clear hW3
  go_ret
  exact ⟨rfl, HP.out.1, HP.out.2⟩
end Go.Proofs.Ytebkkbmplndcpaa

namespace Go.Proofs.Ytebkkbmplndcpaa
open Go.RowKit Go.Sort
set_option linter.unusedVariables false
set_option linter.unusedSimpArgs false
set_option maxRecDepth 100000

theorem Reads.cellP {w : World} {a : Option Addr} {n : Nat} {l : List Nat} (h : Reads w a n l) {j : Nat} (hj : j < n) : ∃ b off, a = some ⟨b, off, none⟩ ∧ b < w.heap.size ∧ ∀ j, j < n → w.cell? ⟨b, off + j, none⟩ = some (.int .u8 ((l.getD j 0 : Nat) : Int)) := by
  obtain ⟨h1, _, h0 | ⟨b, off, e, hb, hc⟩⟩ := h
  · rw [h0] at h1; simp at h1; omega
  · exact ⟨b, off, e, hb, hc⟩
/-- What a pipe's call comes to: its answer, the pipes, nothing else touched. -/
def PipesPost (B : Nat) (w : World) (g gs : Nat) (fl : List PipeD) (v : Value) (e : Ending) (w' : World) : Prop := e = .returned v ∧ IsPipes B w' g gs fl ∧ w.grownBy w' (some gs)
def mayAddB (ends : Nat) (more : Int) : Bool := decide (-(ends : Int) ≤ more ∧ more ≤ 1000 - (ends : Int))
set_option maxHeartbeats 1600000 in
theorem mayAdd_is (ends : Nat) (he : ends ≤ 1000) (more : Int) (w : World) : Calls Try.prog 64 #[.int .i64 (ends : Int), .int .i64 more] w fun e w' => e = .returned (.bool (mayAddB ends more)) ∧ w = w' := by
  have hw1 : IntKind.i64.wrap (-(ends : Int)) = -(ends : Int) := IntWalk.i64_in _ (by omega)
  have hw2 : IntKind.i64.wrap (1000 - (ends : Int)) = 1000 - (ends : Int) := IntWalk.i64_in _ (by omega)
  unfold mayAddB
  by_cases h1 : -(ends : Int) ≤ more
  · by_cases h2 : more ≤ 1000 - (ends : Int)
    · rw [decide_eq_true ⟨h1, h2⟩]
      go_enter Try.func64, Try.ntmps64
      go_wp2
      go_ret
      exact ⟨rfl, rfl⟩
    · rw [decide_eq_false (by omega)]
      go_enter Try.func64, Try.ntmps64
      go_wp2
      go_ret
      exact ⟨rfl, rfl⟩
  · rw [decide_eq_false (by omega)]
    go_enter Try.func64, Try.ntmps64
    go_wp2
    go_ret
    exact ⟨rfl, rfl⟩
/-- So many ends more. -/
def endsP (s : PipeD) (m k : Int) : PipeD := { s with readers := ((s.readers : Int) + m).toNat, writers := ((s.writers : Int) + k).toNat }
theorem content_ends (s : PipeD) (m k : Int) : content (endsP s m k) = content s := rfl
set_option maxHeartbeats 1600000 in
theorem padd_yes {B : Nat} {w : World} {g gs : Nat} {fl : List PipeD} (h : IsPipes B w g gs fl) (n : Int) (i : Nat) (hn : n = (i : Int) + 1) (s : PipeD) (hu : fl[i]? = some s) (hk : thereB s = true) (m k : Int) (hm : mayAddB s.readers m = true) (hk2 : mayAddB s.writers k = true) :
    Calls Try.prog 23 #[.pointer (some ⟨g, 0, none⟩), .int .i64 n, .int .i64 m, .int .i64 k] w (PipesPost B w g gs (fl.set i (endsP s m k)) (.int .i64 0)) := by
  have HF := Lib.hid (pfind_yes h n i hn s hu hk)
  have hok := pipes_lts h hu
  have hi := (List.getElem?_eq_some_iff.1 hu).1
  obtain ⟨k1, k2, k3, k4, k5, k6⟩ := hok
  have HM1 := Lib.hid (fun W => mayAdd_is s.readers k4 m W)
  have HM2 := Lib.hid (fun W => mayAdd_is s.writers k5 k W)
  rw [hm] at HM1
  rw [hk2] at HM2
  unfold mayAddB at hm hk2
  obtain ⟨m1, m2⟩ := of_decide_eq_true hm
  obtain ⟨m3, m4⟩ := of_decide_eq_true hk2
  obtain ⟨r, hr⟩ := Int.eq_ofNat_of_zero_le (show 0 ≤ (s.readers : Int) + m by omega)
  obtain ⟨x, hx⟩ := Int.eq_ofNat_of_zero_le (show 0 ≤ (s.writers : Int) + k by omega)
  have hw1 : IntKind.i64.wrap ((s.readers : Int) + m) = (r : Int) := by rw [IntWalk.i64_in _ (by omega)]; exact hr
  have hw2 : IntKind.i64.wrap ((s.writers : Int) + k) = (x : Int) := by rw [IntWalk.i64_in _ (by omega)]; exact hx
  have hE : endsP s m k = { s with readers := r, writers := x } := by unfold endsP; rw [hr, hx]; rfl
  have h9 : Hid (∀ W, Below w.heap.size w W → ∃ W3, W3 = (W.setCell ⟨gs, i * 68 + 66, none⟩ (.int .i64 (r : Int))).setCell ⟨gs, i * 68 + 67, none⟩ (.int .i64 (x : Int)) ∧ IsPipes B W3 g gs (fl.set i (endsP s m k)) ∧ w.grownBy W3 (some gs) ∧ W.frozen? ⟨gs, i * 68 + 66, none⟩ = false ∧ (W.setCell ⟨gs, i * 68 + 66, none⟩ (.int .i64 (r : Int))).cell? ⟨gs, i * 68 + 67, none⟩ = some (.int .i64 (s.writers : Int)) ∧ (W.setCell ⟨gs, i * 68 + 66, none⟩ (.int .i64 (r : Int))).frozen? ⟨gs, i * 68 + 67, none⟩ = false) := Lib.hid (fun W hW => by
    have k0 := h.below hW
    have hok := pipes_lts k0 hu
    have s1 := pipes_store (j := 66) k0 hu (by decide) (.int .i64 (r : Int)) ((pipeV_sets s hok).2.2.1 r) (s' := { s with readers := r }) ⟨k1, k2, k3, by show r ≤ 1000; omega, k5, k6⟩
    have hu2 : (fl.set i { s with readers := r })[i]? = some { s with readers := r } := List.getElem?_set_self hi
    have hok2 := pipes_lts s1.1 hu2
    have s2 := pipes_store (j := 67) s1.1 hu2 (by decide) (.int .i64 (x : Int)) ((pipeV_sets _ hok2).2.2.2 x) (s' := { s with readers := r, writers := x }) ⟨k1, k2, k3, by show r ≤ 1000; omega, by show x ≤ 1000; omega, k6⟩
    rw [List.set_set, ← hE] at s2
    exact ⟨_, rfl, s2.1, grown_transP (grown_transP (grown_ofBelowP hW) s1.2) s2.2, pipes_free k0 _, (pipes_row s1.1 hu2).2.2.2, pipes_free s1.1 _⟩)
  have H := Lib.hid h
  have HU := Lib.hid hu
  clear h hu hk hn hm hk2 hE hr hx hi k1 k2 k3 k4 k5 k6 m1 m2 m3 m4
  go_enter Try.func23, Try.ntmps23
  go_wp2_with fail
  refine HF.out.mono ?_
  rintro e w1 ⟨rfl, b1⟩
  obtain ⟨r0, r1, r2, r3⟩ := pipes_row (H.out.below b1) HU.out
  have HB := Lib.hid b1
  clear b1 r0 r1
  go_wp2_with fail
  refine (HM1.out w1).mono ?_
  rintro e w2 ⟨rfl, rfl⟩
  go_wp2_with fail
  refine (HM2.out w1).mono ?_
  rintro e w2 ⟨rfl, rfl⟩
  obtain ⟨W3, hW3, hp3, hg3, f0, x1, f1⟩ := h9.out w1 HB.out
  have HP := Lib.hid (And.intro hp3 hg3)
  clear hp3 hg3 h9
  go_wp2
  rw [← hW3]
  clear hW3
  go_ret
  exact ⟨rfl, HP.out.1, HP.out.2⟩
def newP : PipeD := ⟨List.replicate 64 0, 0, 0, 1, 1⟩
theorem okP_newP : okP newP := ⟨rfl, by decide, by decide, by decide, by decide, okP_zero.2.2.2.2.2⟩
theorem content_newP : content newP = [] := rfl
theorem there_newP : thereB newP = true := rfl
theorem firstP_or {α : Type} (p : α → Bool) (l : List α) : (firstI p l = -1 ∧ ∀ s ∈ l, p s = false) ∨ ∃ (i : Nat) (s : α), firstI p l = (i : Int) ∧ l[i]? = some s ∧ p s = true ∧ ∀ (j : Nat) (t : α), j < i → l[j]? = some t → p t = false := by
  have key : ∀ k, k ≤ l.length → (placesL p l k = [] ∧ ∀ (j : Nat) (t : α), j < k → l[j]? = some t → p t = false) ∨ ∃ (i : Nat) (s : α), firstI p l = (i : Int) ∧ l[i]? = some s ∧ p s = true ∧ ∀ (j : Nat) (t : α), j < i → l[j]? = some t → p t = false := by
    intro k
    induction k with
    | zero => intro _; exact .inl ⟨rfl, fun j t hj => absurd hj (Nat.not_lt_zero _)⟩
    | succ k ih =>
      intro hk
      rcases ih (by omega) with ⟨h1, h2⟩ | h
      · obtain ⟨s, hs⟩ : ∃ s, l[k]? = some s := ⟨_, List.getElem?_eq_getElem (by omega)⟩
        cases hp : p s with
        | true => exact .inr ⟨k, s, firstI_hit h1 hs hp, hs, hp, h2⟩
        | false =>
          refine .inl ⟨(placesL_no hs hp).trans h1, fun j t hj ht => ?_⟩
          by_cases e : j = k
          · subst e; rw [hs] at ht; cases ht; exact hp
          · exact h2 j t (by omega) ht
      · exact .inr h
  rcases key l.length (Nat.le_refl _) with ⟨h1, h2⟩ | h
  · refine .inl ⟨by unfold firstI; rw [h1], fun s hs => ?_⟩
    obtain ⟨j, hj⟩ := List.mem_iff_getElem?.1 hs
    exact h2 j s (List.getElem?_eq_some_iff.1 hj).1 hj
  · exact .inr h
end Go.Proofs.Ytebkkbmplndcpaa
