/- Pipes in memory, and the program's small calls on them, by their walks. -/
import Derived.Test.YthainmbapikjiaaPick3
import Derived.Test.YthainmbapikjiaaPick2
import Derived.BigFrame
import Derived.Deep.MidRow
import Derived.Test.YthainmbapikjiaaMem
import Derived.Laws.MakeOwn
import Derived.Lib.MinMax
import Derived.RegionTactic
import Derived.ChangeAlike
import Derived.IntWalk
import Derived.Deep.WholeRow
import Derived.Deep.DeepCutAuto
import Derived.Deep.CutBlock
namespace Go.Proofs.Ythainmbapikjiaa
open Go.RowKit Go.Sort
set_option linter.unusedVariables false
set_option linter.unusedSimpArgs false
set_option maxRecDepth 100000

/-- A pipe: its ring of 64 bytes, and its ends. -/
structure PipeD where
  bs : List Nat
  first : Nat
  count : Nat
  readers : Nat
  writers : Nat
deriving DecidableEq
def pipeV (u : PipeD) : List Value := u.bs.map byteV ++ [.int .i64 (u.first : Int), .int .i64 (u.count : Int), .int .i64 (u.readers : Int), .int .i64 (u.writers : Int)]
def okP (u : PipeD) : Prop := u.bs.length = 64 ∧ u.first < 64 ∧ u.count ≤ 64 ∧ u.readers ≤ 1000 ∧ u.writers ≤ 1000 ∧ Bytes u.bs
def zeroP : PipeD := ⟨List.replicate 64 0, 0, 0, 0, 0⟩
theorem okP_zero : okP zeroP := ⟨rfl, by decide, by decide, by decide, by decide, by intro x hx; rw [show x = 0 from List.eq_of_mem_replicate hx]; decide⟩
def thereB (u : PipeD) : Bool := decide (0 < u.readers ∨ 0 < u.writers)
def pipesV (l : List PipeD) : List (List Value) := l.map pipeV
theorem pipesV_length (l : List PipeD) : (pipesV l).length = l.length := by unfold pipesV; rw [List.length_map]
theorem pipesV_get {l : List PipeD} {i : Nat} {u : PipeD} (h : l[i]? = some u) : (pipesV l)[i]? = some (pipeV u) := by unfold pipesV; rw [List.getElem?_map, h]; rfl
theorem pipeV_length {u : PipeD} (h : okP u) : (pipeV u).length = 68 := by unfold pipeV; rw [List.length_append, List.length_map, h.1]; rfl
theorem pipeV_at {u : PipeD} (h : okP u) : (pipeV u)[64]? = some (.int .i64 (u.first : Int)) ∧ (pipeV u)[65]? = some (.int .i64 (u.count : Int)) ∧ (pipeV u)[66]? = some (.int .i64 (u.readers : Int)) ∧ (pipeV u)[67]? = some (.int .i64 (u.writers : Int)) := by
  have hl : (u.bs.map byteV).length = 64 := by rw [List.length_map, h.1]
  unfold pipeV
  refine ⟨?_, ?_, ?_, ?_⟩ <;> rw [List.getElem?_append_right (by omega), hl] <;> rfl
theorem pipeV_byte {u : PipeD} (h : okP u) {j : Nat} (hj : j < 64) : (pipeV u)[j]? = some (byteV (u.bs.getD j 0)) := by
  have hl : (u.bs.map byteV).length = 64 := by rw [List.length_map, h.1]
  unfold pipeV
  rw [List.getElem?_append_left (by omega), List.getElem?_map, List.getD_eq_getElem?_getD, List.getElem?_eq_getElem (by rw [h.1]; exact hj)]
  rfl
theorem pipeV_one (u : PipeD) : ∀ v ∈ pipeV u, v.oneCell' = true := by
  intro v hv
  unfold pipeV at hv
  rcases List.mem_append.1 hv with hv | hv
  · obtain ⟨x, _, rfl⟩ := List.mem_map.1 hv; rfl
  · simp only [List.mem_cons, List.not_mem_nil, or_false] at hv
    rcases hv with rfl | rfl | rfl | rfl <;> rfl
theorem load_mid_wantP {ops : Array Oper} {rest : List Oper} {op : Oper} {a : Act} {w : World} {Q : Exit → Act → World → Prop} (hw : Region.wanted op (yielded ops a.tmps) = true) (ty : TypeId) (x : Operand) (ho : op.op = .load ty x)
    (b o : Nat) (hx : a.eval x = .pointer (some ⟨b, o, none⟩)) (cs : List Value) (d : TypeDesc) (hc : w.rangeAt b o cs)
    (hu : Try.prog.underlying ty = some d) (hd : d.isRow = true) (hi : (Try.prog.info? ty).map (·.size) = some cs.length)
    (h : wpList Try.prog ops Q rest (a.put op.dst (.agg cs.toArray)) w) : wpList Try.prog ops Q (op :: rest) a w :=
  BigFrame.wpList_want hw fun _ hK => wp_load_mid ty x ho b o hx cs d hc hu hd hi (hK _ _ h)
theorem cell_atP {w : World} {g : Nat} {cs : Array Value} {t : TypeId} (h : w.heap[g]? = some (.cells cs t (0, 0))) (j : Nat) : w.cell? ⟨g, j, none⟩ = cs[j]? := by
  unfold World.cell?; rw [h]; rfl
theorem frozen_atP {w : World} {g : Nat} {cs : Array Value} {t : TypeId} (h : w.heap[g]? = some (.cells cs t (0, 0))) (j : Nat) : w.frozen? ⟨g, j, none⟩ = false := by
  unfold World.frozen?; rw [h]; simp
theorem grown_belowP {w w1 w' : World} {row : Option Nat} (b : Below w.heap.size w w1) (h : w1.grownBy w' row) : w.grownBy w' row :=
  ⟨h.os.trans b.os, h.tape.trans b.tape, h.output.trans b.output, Nat.le_trans b.size h.size, fun j hj hne => (h.block j (Nat.lt_of_lt_of_le hj b.size) hne).trans (b.block j hj)⟩
theorem grown_ofBelowP {w w' : World} {row : Option Nat} (b : Below w.heap.size w w') : w.grownBy w' row := grown_belowP b (grown_same _ _)
theorem grown_transP {w w' w'' : World} {row : Option Nat} (h : w.grownBy w' row) (k : w'.grownBy w'' row) : w.grownBy w'' row :=
  ⟨k.os.trans h.os, k.tape.trans h.tape, k.output.trans h.output, Nat.le_trans h.size k.size, fun j hj hne => (k.block j (Nat.lt_of_lt_of_le hj h.size) hne).trans (h.block j hj hne)⟩
def IsPipes (B : Nat) (w : World) (g gs : Nat) (fl : List PipeD) : Prop :=
  w.heap[g]? = some (.cells #[.slice (some ⟨gs, 0, none⟩) fl.length fl.length] 135 (0, 0)) ∧ OwnsR' B w 141 68 (.slice (some ⟨gs, 0, none⟩) fl.length fl.length) (pipesV fl) ∧ B ≤ g ∧ 1 ≤ fl.length ∧ fl.length ≤ 64 ∧ ∀ u ∈ fl, okP u
theorem OwnsR'.apartP {B : Nat} {w : World} {e t : TypeId} {k : Nat} {v : Value} {l : List (List Value)} {g : Nat} {C : Array Value} {fr : Nat × Nat} (h : OwnsR' B w e k v l) (hg : w.heap[g]? = some (.cells C t fr)) (hne : e ≠ t) : v.ownBlock ≠ some g := by
  obtain ⟨_, _, h⟩ := h
  rcases h with ⟨rfl, _⟩ | ⟨g', cap, cur, rfl, _, hg', _⟩
  · intro h; cases h
  · intro h
    obtain rfl : g' = g := by simpa [Value.ownBlock] using h
    rw [hg] at hg'
    simp at hg'
    exact hne hg'.2.1.symm
theorem IsPipes.apart {B : Nat} {w : World} {g gs : Nat} {fl : List PipeD} (h : IsPipes B w g gs fl) : gs ≠ g := by
  have := h.2.1.apartP h.1 (by decide)
  intro e
  exact this (by rw [e]; rfl)
theorem IsPipes.below {B : Nat} {w w' : World} {g gs : Nat} {fl : List PipeD} (h : IsPipes B w g gs fl) (b : Below w.heap.size w w') : IsPipes B w' g gs fl :=
  ⟨(b.block g (Array.getElem?_eq_some_iff.1 h.1).1).trans h.1, h.2.1.below b, h.2.2⟩
theorem IsPipes.less {B B' : Nat} {w : World} {g gs : Nat} {fl : List PipeD} (h : IsPipes B w g gs fl) (hB : B' ≤ B) : IsPipes B' w g gs fl := ⟨h.1, h.2.1.less hB, Nat.le_trans hB h.2.2.1, h.2.2.2⟩
theorem pipes_facts {B : Nat} {w : World} {g gs : Nat} {fl : List PipeD} (h : IsPipes B w g gs fl) : w.cell? ⟨g, 0, none⟩ = some (.slice (some ⟨gs, 0, none⟩) fl.length fl.length) := by
  unfold World.cell?; rw [h.1]; rfl
theorem pipes_lt {B : Nat} {w : World} {g gs : Nat} {fl : List PipeD} (h : IsPipes B w g gs fl) : g < w.heap.size ∧ gs < w.heap.size ∧ B ≤ gs := ⟨(Array.getElem?_eq_some_iff.1 h.1).1, (h.2.1.lt gs rfl).2, (h.2.1.lt gs rfl).1⟩
theorem pipes_lts {B : Nat} {w : World} {g gs : Nat} {fl : List PipeD} (h : IsPipes B w g gs fl) {i : Nat} {s : PipeD} (hu : fl[i]? = some s) : okP s := h.2.2.2.2.2 s (List.mem_of_getElem? hu)
theorem pipes_row {B : Nat} {w : World} {g gs : Nat} {fl : List PipeD} (h : IsPipes B w g gs fl) {i : Nat} {s : PipeD} (hu : fl[i]? = some s) :
    w.cell? ⟨gs, i * 68 + 64, none⟩ = some (.int .i64 (s.first : Int)) ∧ w.cell? ⟨gs, i * 68 + 65, none⟩ = some (.int .i64 (s.count : Int)) ∧ w.cell? ⟨gs, i * 68 + 66, none⟩ = some (.int .i64 (s.readers : Int)) ∧ w.cell? ⟨gs, i * 68 + 67, none⟩ = some (.int .i64 (s.writers : Int)) := by
  have hh := h.2.1.head.2.2 i _ (pipesV_get hu)
  obtain ⟨h0, h1, h2, h3⟩ := pipeV_at (pipes_lts h hu)
  exact ⟨hh _ _ h0, hh _ _ h1, hh _ _ h2, hh _ _ h3⟩
theorem pipes_byte {B : Nat} {w : World} {g gs : Nat} {fl : List PipeD} (h : IsPipes B w g gs fl) {i j : Nat} {s : PipeD} (hu : fl[i]? = some s) (hj : j < 64) : w.cell? ⟨gs, i * 68 + j, none⟩ = some (byteV (s.bs.getD j 0)) :=
  h.2.1.head.2.2 i _ (pipesV_get hu) j _ (pipeV_byte (pipes_lts h hu) hj)
theorem pipes_range {B : Nat} {w : World} {g gs : Nat} {fl : List PipeD} (h : IsPipes B w g gs fl) {i : Nat} {s : PipeD} (hu : fl[i]? = some s) : w.rangeAt gs (i * 68) (pipeV s) := fun j v hv => h.2.1.head.2.2 i _ (pipesV_get hu) j v hv
theorem pipes_free {B : Nat} {w : World} {g gs : Nat} {fl : List PipeD} (h : IsPipes B w g gs fl) (j : Nat) : w.frozen? ⟨gs, j, none⟩ = false := h.2.1.frozen (pipesV_length fl) j
theorem pipes_store {B : Nat} {w : World} {g gs : Nat} {fl : List PipeD} (h : IsPipes B w g gs fl) {i j : Nat} {s s' : PipeD} (hu : fl[i]? = some s) (hj : j < 68) (x : Value) (hx : (pipeV s).set j x = pipeV s') (hok : okP s') :
    IsPipes B (w.setCell ⟨gs, i * 68 + j, none⟩ x) g gs (fl.set i s') ∧ w.grownBy (w.setCell ⟨gs, i * 68 + j, none⟩ x) (some gs) := by
  have hs := h.2.1.stored (pipesV_length fl) (pipesV_get hu) hj x
  have e : (pipesV fl).set i ((pipeV s).set j x) = pipesV (fl.set i s') := by rw [hx]; unfold pipesV; rw [List.map_set]
  rw [e] at hs
  refine ⟨⟨?_, ?_, h.2.2.1, ?_⟩, hs.2⟩
  · rw [List.length_set, ← h.1]
    exact hs.2.block g (pipes_lt h).1 (by rw [Ne, Option.some.injEq]; exact fun e => h.apart e.symm)
  · rw [List.length_set]
    exact hs.1
  · rw [List.length_set]
    refine ⟨h.2.2.2.1, h.2.2.2.2.1, fun u hu => ?_⟩
    rcases List.mem_or_eq_of_mem_set hu with hu | rfl
    · exact h.2.2.2.2.2 u hu
    · exact hok
theorem pipes_rows (fl : List PipeD) (h : ∀ u ∈ fl, okP u) : ∀ p ∈ pipesV fl, p.length = 68 := by
  intro p hp
  unfold pipesV at hp
  rw [List.mem_map] at hp
  obtain ⟨u, hu, rfl⟩ := hp
  exact pipeV_length (h u hu)
def zeroC : Array Value := (pipeV zeroP).toArray
theorem made_pipes (n : Nat) : (madeCells zeroC (n * 68)).toList = flatR (pipesV (List.replicate n zeroP)) := by
  have hall := pipes_rows (List.replicate n zeroP) (fun u hu => by rw [List.eq_of_mem_replicate hu]; exact okP_zero)
  apply List.ext_getElem?
  intro k
  rw [Array.getElem?_toList]
  by_cases hk : k < n * 68
  · have hd : k = (k / 68) * 68 + k % 68 := by omega
    have hq : k / 68 < n := by omega
    have hm : k % 68 < 68 := Nat.mod_lt _ (by decide)
    have h1 : (pipesV (List.replicate n zeroP))[k / 68]? = some (pipeV zeroP) := pipesV_get (by rw [List.getElem?_replicate, if_pos hq])
    have h2 := flatR_get hall h1 hm
    rw [← hd] at h2
    rw [h2]
    unfold madeCells
    rw [Array.getElem?_map, Array.getElem?_range, if_pos hk]
    simp only [Option.map_some]
    have hz : zeroC.size = 68 := by unfold zeroC; rw [List.size_toArray, pipeV_length okP_zero]
    rw [hz, getElem!_pos zeroC (k % 68) (by rw [hz]; exact hm)]
    unfold zeroC
    rw [List.getElem_toArray, List.getElem?_eq_getElem]
  · rw [Array.getElem?_eq_none (by rw [size_madeCells]; omega), List.getElem?_eq_none (by rw [flatR_length hall, pipesV_length, List.length_replicate]; omega)]
theorem info_pipe : (Try.prog.info? 141).map (fun i => (i.zero, i.size, i.bytes)) = some (some (.agg zeroC), 68, 96) := by kernel_rfl
theorem size_pipe : (Try.prog.info? 141).map (·.size) = some 68 := by kernel_rfl
theorem row_pipe : ∃ d, Try.prog.underlying 141 = some d ∧ d.isRow = true := by
  cases h : Try.prog.underlying 141 with
  | none => exact absurd h (by decide)
  | some d =>
    refine ⟨d, rfl, ?_⟩
    have : (Try.prog.underlying 141).map (·.isRow) = some true := by kernel_rfl
    rw [h] at this
    simpa using this
theorem run_make_rowP (n : Nat) (hn : n ≤ 200) (w : World) :
    (Instr.makeSlice 133 (.int .i64 (n : Int)) (.int .i64 (n : Int))).run Try.prog w = .ok (.slice (some ⟨w.heap.size, 0, none⟩) n n) (w.alloc (.cells (madeCells zeroC (n * 68)) 141)) := by
  obtain ⟨i0, hi, hz0, hz1, hz2⟩ := info_parts info_pipe
  have hr := run_make (P := Try.prog) w 133 141 i0 (.agg zeroC) Try.underlying133 hi hz0 .i64 .i64 n n (by omega) (by omega) (by rw [hz2]; omega) (by omega)
  simp only [Int.toNat_natCast, hz1, Value.cells] at hr
  exact hr
def PNewPost (w : World) (fl : List PipeD) (e : Ending) (w' : World) : Prop := ∃ g gs, e = .returned (.pointer (some ⟨g, 0, none⟩)) ∧ IsPipes w.heap.size w' g gs fl ∧ Below w.heap.size w w'
theorem pnew_is (m : Nat) (hm1 : 1 ≤ m) (hm2 : m ≤ 64) (w : World) : Calls Try.prog 17 #[.int .i64 (m : Int)] w (PNewPost w (List.replicate m zeroP)) := by
  have hmk := fun W => run_make_rowP m (by omega) W
  have hx : min (max (m : Int) 1) 64 = (m : Int) := by omega
  go_enter Try.func17, Try.ntmps17
  go_wp2
  rw [hx] at *
  go_ret
  refine ⟨w.heap.size + 1, w.heap.size, rfl, ⟨?_, ?_, Nat.le_succ _, by rw [List.length_replicate]; exact ⟨hm1, hm2, fun u hu => by rw [List.eq_of_mem_replicate hu]; exact okP_zero⟩⟩, ((Below.refl _ _).alloc (Nat.le_refl _) _).alloc (by simp) _⟩
  · rw [heap_alloc2_new, List.length_replicate]
  · have hl : (pipesV (List.replicate m zeroP)).length = m := by rw [pipesV_length, List.length_replicate]
    have hnew := OwnsR'.new (B := w.heap.size) (w := w) (e := 141) (k := 68) (l := pipesV (List.replicate m zeroP)) (pipes_rows _ (fun u hu => by rw [List.eq_of_mem_replicate hu]; exact okP_zero)) (Nat.le_refl _) (by rw [hl]; unfold maxLen; omega) (made_pipes m)
    rw [hl] at hnew
    rw [List.length_replicate]
    exact hnew.alloc _
set_option maxHeartbeats 1600000 in
theorem there_is (u : PipeD) (hu : okP u) (w : World) : Calls Try.prog 74 #[.agg (pipeV u).toArray] w fun e w' => e = .returned (.bool (thereB u)) ∧ Below w.heap.size w w' := by
  have n0 := heap_alloc_new w (.cells (pipeV u).toArray 141)
  obtain ⟨_, _, h2, h3⟩ := pipeV_at hu
  have x2 : (w.alloc (.cells (pipeV u).toArray 141)).cell? ⟨w.heap.size, 66, none⟩ = some (.int .i64 (u.readers : Int)) := (cell_atP n0 66).trans (by rw [List.getElem?_toArray]; exact h2)
  have x3 : (w.alloc (.cells (pipeV u).toArray 141)).cell? ⟨w.heap.size, 67, none⟩ = some (.int .i64 (u.writers : Int)) := (cell_atP n0 67).trans (by rw [List.getElem?_toArray]; exact h3)
  have hb := below_box w (.cells (pipeV u).toArray 141)
  clear n0 h2 h3
  unfold thereB
  by_cases h1 : 0 < u.readers
  · have h1' : (0 : Int) < (u.readers : Int) := by omega
    rw [decide_eq_true (Or.inl h1)]
    go_enter Try.func74, Try.ntmps74
    go_wp2
    go_ret
    exact ⟨rfl, hb⟩
  · have h1' : ¬ (0 : Int) < (u.readers : Int) := by omega
    by_cases h2 : 0 < u.writers
    · have h2' : (0 : Int) < (u.writers : Int) := by omega
      rw [decide_eq_true (Or.inr h2)]
      go_enter Try.func74, Try.ntmps74
      go_wp2
      go_ret
      exact ⟨rfl, hb⟩
    · have h2' : ¬ (0 : Int) < (u.writers : Int) := by omega
      rw [decide_eq_false (by omega)]
      go_enter Try.func74, Try.ntmps74
      go_wp2
      go_ret
      exact ⟨rfl, hb⟩
theorem enters_there (args : Array Value) (w : World) : (callFunc 74 args).run Try.prog w = .ok (.enter 74 args) w := enters_of Try.func74 (by kernel_rfl) rfl args w
theorem enters_make1 (args : Array Value) (w : World) : (callFunc 73 args).run Try.prog w = .ok (.enter 73 args) w := enters_of Try.func73 (by kernel_rfl) rfl args w
theorem there_pred (w : World) : PredV 74 #[] (fun s => .agg (pipeV s).toArray) okP thereB w := fun W s hs _ => there_is s hs W
set_option maxHeartbeats 1600000 in
theorem gone_pred (w : World) : PredV 73 #[] (fun s => .agg (pipeV s).toArray) okP (fun s => !thereB s) w := by
  intro W s hs hB
  clear hB
  show Calls Try.prog 73 #[.agg (pipeV s).toArray] W _
  have n0 := heap_alloc_new W (.cells (pipeV s).toArray 141)
  have hb := below_box W (.cells (pipeV s).toArray 141)
  have hT := Lib.hid (fun W => there_is s hs W)
  obtain ⟨d, hu, hd⟩ := row_pipe
  have hsz : (Try.prog.info? 141).map (·.size) = some (pipeV s).length := by rw [pipeV_length hs]; exact size_pipe
  have hr : (W.alloc (.cells (pipeV s).toArray 141)).rangeAt W.heap.size 0 (pipeV s) := fun j v hv => by rw [Nat.zero_add]; exact (cell_atP n0 j).trans (by rw [List.getElem?_toArray]; exact hv)
  clear n0 hs
  dsimp only
  obtain ⟨b, hb9⟩ : ∃ x, thereB s = x := ⟨_, rfl⟩
  rw [hb9] at hT ⊢
  clear hb9
  go_enter Try.func73, Try.ntmps73
  go_wp2_with (refine wpList_load_mid rfl 141 _ rfl W.heap.size 0 rfl (pipeV s) d hr hu hd hsz ?_)
  refine (hT.out _).mono ?_
  rintro e w1 ⟨rfl, b1⟩
  go_wp2
  go_ret
  exact ⟨rfl, below_next hb b1⟩
theorem pipes_reads {B : Nat} {w : World} {g gs : Nat} {fl : List PipeD} (h : IsPipes B w g gs fl) : ReadsR w (some ⟨gs, 0, none⟩) 68 (pipesV fl) := by
  obtain ⟨a, c, hv, hr, _, _⟩ := h.2.1.reads
  obtain ⟨rfl, _, _⟩ := Value.slice.inj hv
  exact hr
set_option maxHeartbeats 1600000 in
theorem places_pipe (l : List PipeD) (a : Option Addr) (cap : Nat) (w : World) (hr : ReadsR w a 68 (pipesV l)) (hn : l.length ≤ 100000) (S : PipeD → Prop) (hS : ∀ r ∈ l, S r) (hok : ∀ r ∈ l, okP r) (p : PipeD → Bool)
    (g : Nat) (lb : Array Value) (eg : ∀ args w, (callFunc g args).run Try.prog w = .ok (.enter g args) w) (hp : PredV g lb (fun u => .agg (pipeV u).toArray) S p w) :
    Calls Try.prog 80 #[.slice a l.length cap, .func (.func g) #[] lb] w (PlacesPost w p l) := by
  have HR := Lib.hid hr
  have HS := Lib.hid hS
  have HOKP := Lib.hid hok
  obtain ⟨d, hu9, hd9⟩ := row_pipe
  have HP := Lib.hid hp
  clear hr hS hp hok
  obtain ⟨n, hnn⟩ : ∃ n, l.length = n := ⟨_, rfl⟩
  have HE : Hid (PlacesPost w p l = fun e w' => ∃ v, e = .returned v ∧ OwnsV w.heap.size w' 3 v (natV (placesL p l n)) ∧ Below w.heap.size w w') := by show _ = _; rw [← hnn]; rfl
  rw [hnn] at hn ⊢
  have HN := Lib.hid hnn
  clear hnn
  go_enter Try.func80, Try.ntmps80
  go_wp2
  go_loopw [5, 10] (fun v i wr => ∃ k : Nat, k ≤ n ∧ i = .int .i64 k ∧ Hid (OwnsV w.heap.size wr 3 v (natV (placesL p l k))) ∧ Hid (Below w.heap.size w wr)) (fun _ i _ => n - (intOf i).toNat)
  case atStart => exact ⟨0, Nat.zero_le _, rfl, OwnsV.nil _ _ _, Below.refl _ _⟩
  case round =>
    obtain ⟨k, hk, rfl, HO, HB⟩ := hrel
    by_cases hlt : k < n
    · obtain ⟨u, hrow⟩ : ∃ r, l[k]? = some r := ⟨_, List.getElem?_eq_getElem (by rw [HN.out]; exact hlt)⟩
      have HRS := Lib.hid (HS.out u (List.mem_of_getElem? hrow))
      have HROW := Lib.hid hrow
      obtain ⟨b, off, rfl, hb, hc⟩ := (HR.out.below HB.out).row (pipesV_get hrow)
      have hrr : wr.rangeAt b (off + k * 68) (pipeV u) := fun j v hv => by have := hc j v hv; rwa [← Nat.add_assoc] at this
      have hsz9 : (Try.prog.info? 141).map (·.size) = some (pipeV u).length := by rw [pipeV_length (HOKP.out u (List.mem_of_getElem? hrow))]; exact size_pipe
      have hk0 : (0 : Int) ≤ (k : Int) := by omega
      have hk1 : (k : Int) < (n : Int) := by omega
      have hsz7 : (pipeV u).toArray.size = 68 := by rw [List.size_toArray, pipeV_length (HOKP.out u (List.mem_of_getElem? hrow))]
      have hsz8 : (Try.prog.info? 141).map (·.size) = some (pipeV u).toArray.size := by rw [hsz7]; exact size_pipe
      have hold9 : (Try.zeroCells141).size = (pipeV u).toArray.size := by rw [hsz7]; kernel_rfl
      have nz9 := heap_alloc_new wr (.cells Try.zeroCells141 141)
      have e9 := World.setRow_alloc_new wr Try.zeroCells141 (pipeV u).toArray 141
      have hone9 : (pipeV u).toArray.all (·.oneCell') = true := by rw [List.all_toArray, List.all_eq_true]; exact pipeV_one u
      have hbox : (wr.alloc (.cells (pipeV u).toArray 141)).rangeAt wr.heap.size 0 (pipeV u) := fun j v hv => by rw [Nat.zero_add]; exact (cell_atP (heap_alloc_new wr _) j).trans (by rw [List.getElem?_toArray]; exact hv)
      clear hc hrow hb
      have hcall := fun W hW => HP.out W u HRS.out hW
      have hsz := HB.out.size
      obtain ⟨B, hB⟩ : ∃ B, w.heap.size = B := ⟨_, rfl⟩
      rw [hB] at hsz
      have hw1 : B ≤ wr.heap.size + 1 := by omega
      have hlen := placesL_length p l k
      have HLen : Hid ((natV (placesL p l k)).length ≤ 100000) := by show _ ≤ _; rw [natV_length]; omega
      clear hlen hB
      cases hpu : p u with
      | true =>
        simp only [hpu] at hcall
        have HNext : Hid (natV (placesL p l (k + 1)) = natV (placesL p l k) ++ [.int .i64 (k : Int)]) := by show _ = _; rw [placesL_yes HROW.out hpu, natV_append]; rfl
        clear hpu
        go_wp2_with (first | (refine wpList_load_mid (by rfl) 141 _ (by rfl) b (off + k * 68) (by rfl) (pipeV u) d hrr hu9 hd9 hsz9 ?_) | (refine wpList_store_row (by rfl) 141 _ _ (by rfl) wr.heap.size (pipeV u).toArray (by rfl) (by rfl) _ _ nz9 hsz8 hold9 hone9 ?_; rw [e9]) | (refine wpList_load_mid (by rfl) 141 _ (by rfl) wr.heap.size 0 (by rfl) (pipeV u) d hbox hu9 hd9 hsz9 ?_) | (go_at_fn g; refine (hcall _ (below_next HB.out (below_box _ _))).mono ?_; rintro e w1 ⟨rfl, b1⟩) | (at_builtin; refine wpList_append_vals rfl _ _ 72 rfl w.heap.size 3 (.int .i64 0) 8 Try.underlying72 info_int rfl _ _ rfl (((HO.out.alloc _).below b1).alloc _) _ _ _ rfl _ (ReadsV.lit w1 #[.int .i64 (k : Int)] 3) (by intro y hy; simp at hy; subst hy; rfl) (by have := HLen.out; simp; omega) (by have := HLen.out; unfold maxLen; simp; omega) (by have h1 := b1.size; have h2 := HB.out.size; simp at h1 ⊢; omega) ?_; intro v' w2 ho hg))
        go_roundw
        case rel =>
          refine ⟨k + 1, by omega, by go_num, ?_, ?_⟩
          · show OwnsV _ _ _ _ _
            rw [HNext.out]
            exact ho
          · refine (((HO.out.alloc _).below b1).alloc _).grown ?_ ?_ hg
            · exact (below_next (below_next HB.out (below_box _ _)) b1).alloc (by have h1 := b1.size; have h2 := HB.out.size; simp at h1; omega) _
            · have h1 := b1.size; have h2 := HB.out.size; simp at h1 ⊢; omega
        case measure => simp [intOf]; omega
      | false =>
        simp only [hpu] at hcall
        have HNext : Hid (placesL p l (k + 1) = placesL p l k) := placesL_no HROW.out hpu
        clear hpu
        go_wp2_with (first | (refine wpList_load_mid (by rfl) 141 _ (by rfl) b (off + k * 68) (by rfl) (pipeV u) d hrr hu9 hd9 hsz9 ?_) | (refine wpList_store_row (by rfl) 141 _ _ (by rfl) wr.heap.size (pipeV u).toArray (by rfl) (by rfl) _ _ nz9 hsz8 hold9 hone9 ?_; rw [e9]) | (refine wpList_load_mid (by rfl) 141 _ (by rfl) wr.heap.size 0 (by rfl) (pipeV u) d hbox hu9 hd9 hsz9 ?_) | (go_at_fn g; refine (hcall _ (below_next HB.out (below_box _ _))).mono ?_; rintro e w1 ⟨rfl, b1⟩))
        go_roundw
        case rel =>
          refine ⟨k + 1, by omega, by go_num, ?_, ?_⟩
          · show OwnsV _ _ _ _ _
            rw [HNext.out]
            exact (HO.out.alloc _).below b1
          · exact below_next (below_next HB.out (below_box _ _)) b1
        case measure => simp [intOf]; omega
    · have hkn : k = n := by omega
      subst hkn
      go_wp2
      go_ret
      rw [HE.out]
      exact ⟨_, rfl, HO.out, HB.out⟩
set_option maxHeartbeats 1600000 in
theorem index_pipe (l : List PipeD) (a : Option Addr) (cap : Nat) (w : World) (hr : ReadsR w a 68 (pipesV l)) (hn : l.length ≤ 100000) (S : PipeD → Prop) (hS : ∀ r ∈ l, S r) (hok : ∀ r ∈ l, okP r) (p : PipeD → Bool)
    (g : Nat) (lb : Array Value) (eg : ∀ args w, (callFunc g args).run Try.prog w = .ok (.enter g args) w) (hp : PredV g lb (fun u => .agg (pipeV u).toArray) S p w) :
    Calls Try.prog 72 #[.slice a l.length cap, .func (.func g) #[] lb] w fun e w' => e = .returned (.int .i64 (firstI p l)) ∧ Below w.heap.size w w' := by
  have HR := Lib.hid hr
  have HS := Lib.hid hS
  have HOKP := Lib.hid hok
  obtain ⟨d, hu9, hd9⟩ := row_pipe
  have HP := Lib.hid hp
  clear hr hS hp hok
  obtain ⟨n, hnn⟩ : ∃ n, l.length = n := ⟨_, rfl⟩
  obtain ⟨z, hz⟩ : ∃ z, firstI p l = z := ⟨_, rfl⟩
  rw [hnn] at hn ⊢
  rw [hz]
  have HZ := Lib.hid hz
  have HN := Lib.hid hnn
  clear hnn hz
  go_enter Try.func72, Try.ntmps72
  go_wp2
  go_loopw [8] (fun i wr => ∃ k : Nat, k ≤ n ∧ i = .int .i64 k ∧ Hid (placesL p l k = []) ∧ Hid (Below w.heap.size w wr)) (fun i _ => n - (intOf i).toNat)
  case atStart => exact ⟨0, Nat.zero_le _, rfl, rfl, Below.refl _ _⟩
  case round =>
    obtain ⟨k, hk, rfl, HO, HB⟩ := hrel
    by_cases hlt : k < n
    · obtain ⟨u, hrow⟩ : ∃ r, l[k]? = some r := ⟨_, List.getElem?_eq_getElem (by rw [HN.out]; exact hlt)⟩
      have HRS := Lib.hid (HS.out u (List.mem_of_getElem? hrow))
      have HROW := Lib.hid hrow
      obtain ⟨b, off, rfl, hb, hc⟩ := (HR.out.below HB.out).row (pipesV_get hrow)
      have hrr : wr.rangeAt b (off + k * 68) (pipeV u) := fun j v hv => by have := hc j v hv; rwa [← Nat.add_assoc] at this
      have hsz9 : (Try.prog.info? 141).map (·.size) = some (pipeV u).length := by rw [pipeV_length (HOKP.out u (List.mem_of_getElem? hrow))]; exact size_pipe
      have hk0 : (0 : Int) ≤ (k : Int) := by omega
      have hk1 : (k : Int) < (n : Int) := by omega
      have hsz7 : (pipeV u).toArray.size = 68 := by rw [List.size_toArray, pipeV_length (HOKP.out u (List.mem_of_getElem? hrow))]
      have hsz8 : (Try.prog.info? 141).map (·.size) = some (pipeV u).toArray.size := by rw [hsz7]; exact size_pipe
      have hold9 : (Try.zeroCells141).size = (pipeV u).toArray.size := by rw [hsz7]; kernel_rfl
      have nz9 := heap_alloc_new wr (.cells Try.zeroCells141 141)
      have e9 := World.setRow_alloc_new wr Try.zeroCells141 (pipeV u).toArray 141
      have hone9 : (pipeV u).toArray.all (·.oneCell') = true := by rw [List.all_toArray, List.all_eq_true]; exact pipeV_one u
      have hbox : (wr.alloc (.cells (pipeV u).toArray 141)).rangeAt wr.heap.size 0 (pipeV u) := fun j v hv => by rw [Nat.zero_add]; exact (cell_atP (heap_alloc_new wr _) j).trans (by rw [List.getElem?_toArray]; exact hv)
      clear hc hrow hb
      have hcall := fun W hW => HP.out W u HRS.out hW
      have hx1 : (0 : Int) ≤ (k : Int) := by omega
      have hx2 : (k : Int) < (n : Int) := by omega
      cases hpu : p u with
      | true =>
        simp only [hpu] at hcall
        have HZ2 : Hid (z = k) := by show _ = _; rw [← HZ.out]; exact firstI_hit HO.out HROW.out hpu
        clear hpu
        go_wp2_with (first | (refine wpList_load_mid (by rfl) 141 _ (by rfl) b (off + k * 68) (by rfl) (pipeV u) d hrr hu9 hd9 hsz9 ?_) | (refine wpList_store_row (by rfl) 141 _ _ (by rfl) wr.heap.size (pipeV u).toArray (by rfl) (by rfl) _ _ nz9 hsz8 hold9 hone9 ?_; rw [e9]) | (refine wpList_load_mid (by rfl) 141 _ (by rfl) wr.heap.size 0 (by rfl) (pipeV u) d hbox hu9 hd9 hsz9 ?_) | (go_at_fn g; refine (hcall _ HB.out).mono ?_; rintro e w1 ⟨rfl, b1⟩))
        go_ret
        exact ⟨ret_int HZ2.out.symm, below_next HB.out b1⟩
      | false =>
        simp only [hpu] at hcall
        have HNext : Hid (placesL p l (k + 1) = []) := (placesL_no HROW.out hpu).trans HO.out
        clear hpu
        go_wp2_with (first | (refine wpList_load_mid (by rfl) 141 _ (by rfl) b (off + k * 68) (by rfl) (pipeV u) d hrr hu9 hd9 hsz9 ?_) | (refine wpList_store_row (by rfl) 141 _ _ (by rfl) wr.heap.size (pipeV u).toArray (by rfl) (by rfl) _ _ nz9 hsz8 hold9 hone9 ?_; rw [e9]) | (refine wpList_load_mid (by rfl) 141 _ (by rfl) wr.heap.size 0 (by rfl) (pipeV u) d hbox hu9 hd9 hsz9 ?_) | (go_at_fn g; refine (hcall _ HB.out).mono ?_; rintro e w1 ⟨rfl, b1⟩))
        go_roundw
        case rel => exact ⟨k + 1, by omega, by go_num, HNext, below_next HB.out b1⟩
        case measure => simp [intOf]; omega
    · have hkn : k = n := by omega
      subst hkn
      go_wp2
      go_ret
      refine ⟨ret_int ?_, HB.out⟩
      rw [← HZ.out]
      unfold firstI
      rw [HN.out, HO.out]
end Go.Proofs.Ythainmbapikjiaa
