/- The writer's end, and the reader of a sector, by their walks. -/
import Derived.Test.YtedhfgadphjobaaWriter
import Derived.Deep.MidRow
namespace Go.Proofs.Ytedhfgadphjobaa
open Go.RowKit
set_option linter.unusedVariables false
set_option maxRecDepth 100000

def noughts : List Nat := List.replicate 128 0
/-- A sector's cells, and its value. -/
def cells (l : List Nat) : Array Value := (l.map byteV).toArray
theorem noughts_pad : noughts = pad [] := rfl
theorem cells_size (l : List Nat) : (cells l).size = l.length := by simp [cells]
theorem cells_one (l : List Nat) : (cells l).all (·.oneCell') = true := by
  rw [Array.all_eq_true_iff_forall_mem]
  intro v hv
  exact byteV_oneCell l v (by simpa [cells] using hv)

theorem zero_sector (w : World) : (zeroValue 46).run Try.prog w = .ok (.agg (cells noughts)) w := by kernel_rfl
theorem zero_writer (w : World) : (zeroValue 164).run Try.prog w = .ok (.agg (wCells (pad []) 0 false)) w := by kernel_rfl
theorem size_sector : (Try.prog.info? 46).map (·.size) = some 128 := by kernel_rfl
theorem row_sector : Try.prog.underlying 46 = some (.array 128 5) := by kernel_rfl
theorem build_sector (w : World) : (Instr.build 46 #[]).run Try.prog w = .ok (.agg (cells noughts)) w := by kernel_rfl

/-- 'sector = value', into a sector's own block. -/
theorem wpList_store_sector {ops : Array Oper} {rest : List Oper} {o : Oper} {a : Act} {w : World} {Q : Exit → Act → World → Prop} (hgd : o.guard = none) (x y : Operand) (ho : o.op = .store 46 x y)
    (g : Nat) (l : List Nat) (hx : a.eval x = .pointer (some ⟨g, 0, none⟩)) (hy : a.eval y = .agg (cells l)) (hl : l.length = 128) (t : TypeId) (old : Array Value) (hg : w.heap[g]? = some (.cells old t (0, 0))) (ho2 : old.size = 128)
    (h : wpList Try.prog ops Q rest (a.put o.dst undef) (w.setRow g (cells l))) : wpList Try.prog ops Q (o :: rest) a w :=
  wpList_store_row hgd 46 x y ho g (cells l) hx hy t old hg (by rw [size_sector, cells_size, hl]) (by rw [cells_size, hl, ho2]) (cells_one l) h

/-- A sector, loaded out of whatever block it lies in. -/
theorem wpList_load_sector {ops : Array Oper} {rest : List Oper} {o : Oper} {a : Act} {w : World} {Q : Exit → Act → World → Prop} (hgd : o.guard = none) (x : Operand) (ho : o.op = .load 46 x)
    (g off : Nat) (l : List Nat) (hx : a.eval x = .pointer (some ⟨g, off, none⟩)) (hl : l.length = 128) (hc : ∀ j, j < 128 → w.cell? ⟨g, off + j, none⟩ = some (byteV (l.getD j 0)))
    (h : wpList Try.prog ops Q rest (a.put o.dst (.agg (cells l))) w) : wpList Try.prog ops Q (o :: rest) a w :=
  wpList_load_mid hgd 46 x ho g off hx (l.map byteV) _ (fun j v hv => by
    simp only [List.getElem?_map, Option.map_eq_some_iff] at hv
    obtain ⟨y, hy, rfl⟩ := hv
    have hj : j < 128 := by rw [← hl]; exact (List.getElem?_eq_some_iff.1 hy).1
    rw [hc j hj]
    simp [List.getD, hy]) row_sector rfl (by rw [size_sector, List.length_map, hl]) h

theorem wCells_byte {s : List Nat} {n : Nat} {f : Bool} (h : s.length = 128) {j : Nat} (hj : j < 128) : (wCells s n f)[j]? = some (byteV (s.getD j 0)) := by
  simp only [wCells, List.getElem?_toArray]
  rw [List.getElem?_append_left (by simp; omega)]
  simp [List.getD, List.getElem?_eq_getElem (show j < s.length by omega)]

/-- The results of a function that hands back a sector and a value: read out of the sector's block. -/
theorem results_sector {fn : Func} {p u : Tmp} (h : fn.results = #[.cell p 46, .tmp u]) (tmps : Array Value) (w : World) (g : Nat) (l : List Nat) (t : TypeId) (fr : Nat × Nat) (hp : tmps.getD p undef = .pointer (some ⟨g, 0, none⟩))
    (hg : w.heap[g]? = some (.cells (cells l) t fr)) (hl : l.length = 128) : (results fn tmps).run Try.prog w = .ok (.tuple #[.agg (cells l), tmps.getD u undef]) w := by
  rw [results_cell_tmp h, hp]
  simp only [asAddr, Sem.run_pure, Result.andThen_ok]
  rw [run_loadVar_row w g t 46 (cells l) fr _ hg row_sector rfl (by rw [size_sector, cells_size, hl])]
  rfl

set_option maxHeartbeats 400000 in
theorem writer_sector (g : Nat) (l : List Nat) (f : Bool) (w : World) (h : IsWriter w g l f) :
    Calls Try.prog 106 #[.pointer (some ⟨g, 0, none⟩)] w fun e w' => e = .returned (.tuple #[.agg (cells (if f then noughts else pad l)), .int .i64 (if f then 1 else 0)]) ∧ Below w.heap.size w w' := by
  obtain ⟨c0, c1, f0, f1⟩ := h.facts
  have hz := zero_sector
  have hbld := build_sector
  have hlen := h.1
  have hgl : g < w.heap.size := (Array.getElem?_eq_some_iff.1 h.2.2).1
  have Hn := Lib.hid (heap_alloc_new w (.cells (cells noughts) 46))
  have Hb : Hid (Below w.heap.size w (w.alloc (.cells (cells noughts) 46))) := (Below.refl _ _).alloc (Nat.le_refl _) _
  cases f with
  | true =>
    go_enter Try.func106, Try.ntmps106
    go_wp2_with (refine wpList_store_sector rfl (.tmp 2) (.tmp 8) rfl w.heap.size noughts rfl rfl rfl _ _ Hn.out rfl ?_)
    all_goals
      have hgn : ((w.alloc (.cells (cells noughts) 46)).setRow w.heap.size (cells noughts)).heap[w.heap.size]? = some (.cells (cells noughts) 46 (0, 0)) := setRow_heap _ _ _ _ _ _ Hn.out
      exact bodyPost_ret (results_sector rfl _ _ w.heap.size noughts _ _ rfl hgn rfl) rfl ⟨rfl, below_setRow Hb.out (Nat.le_refl _) _⟩
  | false =>
    have hc : ∀ j, j < 128 → (w.alloc (.cells (cells noughts) 46)).cell? ⟨g, 0 + j, none⟩ = some (byteV ((pad l).getD j 0)) := fun j hj => by
      rw [Hb.out.cell (p := ⟨g, 0 + j, none⟩) hgl, cell_of_row w g _ _ _ _ h.2.2, Nat.zero_add, wCells_byte (pad_length h.1) hj]
    have Hc := Lib.hid hc
    clear hc
    go_enter Try.func106, Try.ntmps106
    go_wp2_with (first | (refine wpList_store_sector rfl (.tmp 2) (.tmp 12) rfl w.heap.size (pad l) rfl rfl (pad_length h.1) _ _ Hn.out rfl ?_) | (refine wpList_load_sector rfl (.tmp 11) rfl g 0 (pad l) rfl (pad_length h.1) Hc.out ?_))
    all_goals
      have hgn : ((w.alloc (.cells (cells noughts) 46)).setRow w.heap.size (cells (pad l))).heap[w.heap.size]? = some (.cells (cells (pad l)) 46 (0, 0)) := setRow_heap _ _ _ _ _ _ Hn.out
      exact bodyPost_ret (results_sector rfl _ _ w.heap.size (pad l) _ _ rfl hgn (pad_length hlen)) rfl ⟨rfl, below_setRow Hb.out (Nat.le_refl _) _⟩

/-! ### The reader -/
theorem fold_splice (off : Nat) : ∀ (vs : List Value) (k : Nat) (cs : Array Value), off + k + vs.length ≤ cs.size →
    (vs.zipIdx k).foldl (fun cs (p : Value × Nat) => cs.setIfInBounds (off + p.2) p.1) cs = (cs.toList.take (off + k) ++ vs ++ cs.toList.drop (off + k + vs.length)).toArray
  | [], k, cs, h => by simp
  | v :: vs, k, cs, h => by
    simp only [List.length_cons] at h
    simp only [List.zipIdx_cons, List.foldl_cons]
    rw [fold_splice off vs (k + 1) _ (by simp; omega)]
    apply Array.ext'
    simp only [Array.toList_setIfInBounds]
    have h1 : (cs.toList.set (off + k) v).take (off + (k + 1)) = cs.toList.take (off + k) ++ [v] := by
      rw [show off + (k + 1) = (off + k) + 1 by omega, List.take_succ_eq_append_getElem (by simp; omega)]
      rw [List.take_set, List.set_eq_of_length_le (by simp; omega)]
      simp
    have h2 : (cs.toList.set (off + k) v).drop (off + (k + 1) + vs.length) = cs.toList.drop (off + k + (vs.length + 1)) := by
      rw [List.drop_set_of_lt (by omega)]
      congr 1
      omega
    rw [h1, h2]
    simp

theorem reader_info : (Try.prog.info? 197).map (·.zero) = some (some (.agg (wCells noughts 0 false))) := by kernel_rfl
theorem reader_place : ((match Try.prog.underlying 197 with | some (.struct fs) => fs.toList.mapM (fun f => (Try.prog.info? f.type).map fun i => (f.offset, i.size)) | _ => none) : Option (List (Nat × Nat))) = some [(0, 128), (128, 1), (129, 1)] := by kernel_rfl

theorem build_reader (s : List Nat) (hs : s.length = 128) (w : World) : (Instr.build 197 #[(0, .agg (cells s))]).run Try.prog w = .ok (.agg (wCells s 0 false)) w := by
  refine run_build w _ _ _ ?_
  have h1 := reader_info
  have h2 := reader_place
  unfold Program.built
  cases hi : Try.prog.info? 197 with
  | none => simp [hi] at h1
  | some it =>
    simp only [hi, Option.map_some, Option.some.injEq] at h1
    cases hu : Try.prog.underlying 197 with
    | none => simp [hu] at h2
    | some d =>
      rw [hu] at h2
      cases d <;> simp only [reduceCtorEq] at h2
      simp only [h1, h2]
      have hz : (wCells noughts 0 false).size = 130 := wCells_size rfl
      have hc : (Value.agg (cells s)).cells.size = 128 := by simp [Value.cells, cells_size, hs]
      simp only [Instr.fill, List.getElem?_toArray, List.getElem?_cons_zero, Value.cells, cells_size, hs, hz]
      rw [if_neg (by decide)]
      congr 1
      have e : Array.foldl (fun (cs : Array Value) (x : Value × Nat) => cs.setIfInBounds (0 + x.snd) x.fst) (wCells noughts 0 false) (cells s).zipIdx =
          ((s.map byteV).zipIdx 0).foldl (fun cs (p : Value × Nat) => cs.setIfInBounds (0 + p.2) p.1) (wCells noughts 0 false) := by
        rw [← Array.foldl_toList]
        simp [cells]
      rw [e, fold_splice 0 (s.map byteV) 0 _ (by simp [hs, hz])]
      apply Array.ext'
      have hn : (noughts.map byteV).length = 128 := rfl
      simp only [wCells, Nat.add_zero, List.take_zero, List.nil_append, Nat.zero_add, List.length_map, hs]
      rw [List.drop_left' hn]
end Go.Proofs.Ytedhfgadphjobaa
