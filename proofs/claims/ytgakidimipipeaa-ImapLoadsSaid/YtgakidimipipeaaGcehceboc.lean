/- The map's sectors, by the program. -/
import Derived.Test.YtgakidimipipeaaGiafghafi
import Derived.Test.YtgakidimipipeaaGbiabcobl
import Derived.Great.BuildSlice
namespace Go.Proofs.Ytgakidimipipeaa
open Go.RowKit Go.Sort
set_option linter.unusedVariables false
set_option linter.unusedSimpArgs false
set_option maxRecDepth 100000
attribute [local go_sem] Oper.semAt_some

def fldS (s : SlotD) : List FldD := fldSlot s.place s.version s.links s.kind
/-- The k-th sector that holds these slots. -/
noncomputable def secM (sl : List SlotD) (k : Nat) : List Nat := (writeSlot (((sl.drop (k * 10)).take 10).map fldS)).1
noncomputable def secsM (sl : List SlotD) (ks : List Nat) : List (List Value) := ks.map fun k => (cells (secM sl k)).toList
/-- What the rounds of (*Map).Sectors keep. -/
def SecI (sl : List SlotD) (w : World) (gs : Nat) (pre : List (SpotC (tens sl.length))) (W : World) : Prop :=
  (∃ v, Boxed W w.heap.size 36 v ∧ W.ownsRow w.heap.size 41 128 v pre.length (flatR (secsM sl (pre.map (·.1))))) ∧ Below w.heap.size w W ∧
  Boxed W (w.heap.size + 1) 24 (.slice (some ⟨gs, 0, none⟩) sl.length sl.length) ∧ Boxed W (w.heap.size + 1 + 1) 3 (.int .i64 10)

theorem sec_info : (Try.prog.info? 41).map (fun i => (i.zero, i.size, i.bytes)) = some (some (.agg (cells noughts)), 128, 128) := by kernel_rfl
theorem slice_sector (s : List Nat) (hs : s.length = 128) (w : World) : (Instr.buildSlice 36 1 #[(0, .agg (cells s))]).run Try.prog w = .ok (.slice (some ⟨w.heap.size, 0, none⟩) 1 1) (w.alloc (.cells (cells s) 41)) := by
  obtain ⟨i0, hi, hz0, hz1, hz2⟩ := info_parts sec_info
  refine run_buildSlice w _ 41 1 _ _ i0 _ Try.underlying36 hi hz0 (by rw [hz1]; decide) (by rw [hz1]; decide) ?_
  rw [hz1]
  have hl : (cells s).size = 128 := by rw [cells_size, hs]
  have hw := Great.fill_whole (s := 128) (by decide) [Value.agg (cells s)] ((Array.range (1 * 128)).map ((Value.agg (cells noughts)).cells[· % (Value.agg (cells noughts)).cells.size]!)) (by intro v hv; simp only [List.mem_singleton] at hv; subst hv; simpa [Value.cells] using hl) (by simp)
  simpa [Value.cells] using hw
theorem wpList_slice_sector {ops : Array Oper} {rest : List Oper} {op : Oper} {a : Act} {w : World} {Q : Exit → Act → World → Prop} (hgd : op.guard = none) (x : Operand)
    (ho : op.op = .buildSlice 36 1 #[(0, x)]) (s : List Nat) (hx : a.eval x = .agg (cells s)) (hs : s.length = 128)
    (h : wpList Try.prog ops Q rest (a.put op.dst (.slice (some ⟨w.heap.size, 0, none⟩) 1 1)) (w.alloc (.cells (cells s) 41))) : wpList Try.prog ops Q (op :: rest) a w := by
  refine wpList_plain hgd fun K hK => ?_
  unfold Oper.wp
  unfold execOp
  have e : ((#[(0, x)] : Array (Nat × Operand)).map fun (i, x) => (i, a.eval x)) = #[(0, Value.agg (cells s))] := by simp [hx]
  simp only [ho, Sem.run_bind, e, slice_sector s hs w, Result.andThen_ok]
  exact hK _ _ h
theorem grown_noneM {w w' : World} (b : Below w.heap.size w w') : w.grownBy w' none := ⟨b.os, b.tape, b.output, b.size, fun j hj _ => b.block j hj⟩
theorem holdsRow_own' (sl : List SlotD) (w : World) : Own (fun (pre : List (SpotC (tens sl.length))) W => ∃ v, Boxed W w.heap.size 36 v ∧ W.ownsRow w.heap.size 41 128 v pre.length (flatR (secsM sl (pre.map (·.1))))) := by
  intro s A B row hs hg hr
  obtain ⟨v, hv, ho, -⟩ := holdsRow_own w.heap.size w.heap.size 36 41 128 (fun pre : List (SpotC (tens sl.length)) => pre.length) (fun pre => flatR (secsM sl (pre.map (·.1)))) (fun _ _ => True) s A B row (by obtain ⟨v, hv, ho⟩ := hs; exact ⟨v, hv, ho, trivial⟩) hg hr
  exact ⟨v, hv, ho⟩
end Go.Proofs.Ytgakidimipipeaa
