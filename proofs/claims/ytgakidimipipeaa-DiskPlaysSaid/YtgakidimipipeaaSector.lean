/- The writer's end, and the reader of a sector, by their walks. The reader of a sector, by its walks. CRC-32, plainly: no program is spoken of. The two sums, by their walks. -/
import Derived.Test.YtgakidimipipeaaWriter
import Derived.Deep.MidRow
import Derived.Test.YtgakidimipipeaaMath
import Derived.Laws.BitsAllLaws
import Derived.Test.YtgakidimipipeaaNumB
namespace Go.Proofs.Ytgakidimipipeaa
open Go.RowKit
set_option linter.unusedVariables false
set_option maxRecDepth 100000

def noughts : List Nat := List.replicate 128 0
/-- A sector's cells, and its value. -/
def cells (l : List Nat) : Array Value := (l.map byteV).toArray
theorem noughts_pad : noughts = pad [] := rfl
theorem cells_size (l : List Nat) : (cells l).size = l.length := by simp [cells]
theorem cells_one (l : List Nat) : (cells l).all (·.oneCell') = true := by
  rw [Array.all_eq_true_iff_forall_mem]
  intro v hv
  exact byteV_oneCell l v (by simpa [cells] using hv)

theorem zero_sector (w : World) : (zeroValue 41).run Try.prog w = .ok (.agg (cells noughts)) w := by kernel_rfl
theorem zero_writer (w : World) : (zeroValue 207).run Try.prog w = .ok (.agg (wCells (pad []) 0 false)) w := by kernel_rfl
theorem size_sector : (Try.prog.info? 41).map (·.size) = some 128 := by kernel_rfl
theorem row_sector : Try.prog.underlying 41 = some (.array 128 5) := by kernel_rfl
theorem build_sector (w : World) : (Instr.build 41 #[]).run Try.prog w = .ok (.agg (cells noughts)) w := by kernel_rfl

/-- 'sector = value', into a sector's own block. -/
theorem wpList_store_sector {ops : Array Oper} {rest : List Oper} {o : Oper} {a : Act} {w : World} {Q : Exit → Act → World → Prop} (hgd : o.guard = none) (x y : Operand) (ho : o.op = .store 41 x y)
    (g : Nat) (l : List Nat) (hx : a.eval x = .pointer (some ⟨g, 0, none⟩)) (hy : a.eval y = .agg (cells l)) (hl : l.length = 128) (t : TypeId) (old : Array Value) (hg : w.heap[g]? = some (.cells old t (0, 0))) (ho2 : old.size = 128)
    (h : wpList Try.prog ops Q rest (a.put o.dst undef) (w.setRow g (cells l))) : wpList Try.prog ops Q (o :: rest) a w :=
  wpList_store_row hgd 41 x y ho g (cells l) hx hy t old hg (by rw [size_sector, cells_size, hl]) (by rw [cells_size, hl, ho2]) (cells_one l) h

/-- A sector, loaded out of whatever block it lies in. -/
theorem wpList_load_sector {ops : Array Oper} {rest : List Oper} {o : Oper} {a : Act} {w : World} {Q : Exit → Act → World → Prop} (hgd : o.guard = none) (x : Operand) (ho : o.op = .load 41 x)
    (g off : Nat) (l : List Nat) (hx : a.eval x = .pointer (some ⟨g, off, none⟩)) (hl : l.length = 128) (hc : ∀ j, j < 128 → w.cell? ⟨g, off + j, none⟩ = some (byteV (l.getD j 0)))
    (h : wpList Try.prog ops Q rest (a.put o.dst (.agg (cells l))) w) : wpList Try.prog ops Q (o :: rest) a w :=
  wpList_load_mid hgd 41 x ho g off hx (l.map byteV) _ (fun j v hv => by
    simp only [List.getElem?_map, Option.map_eq_some_iff] at hv
    obtain ⟨y, hy, rfl⟩ := hv
    have hj : j < 128 := by rw [← hl]; exact (List.getElem?_eq_some_iff.1 hy).1
    rw [hc j hj]
    simp [List.getD, hy]) row_sector rfl (by rw [size_sector, List.length_map, hl]) h

theorem wCells_byte {s : List Nat} {n : Nat} {f : Bool} (h : s.length = 128) {j : Nat} (hj : j < 128) : (wCells s n f)[j]? = some (byteV (s.getD j 0)) := by
  simp only [wCells, List.getElem?_toArray]
  rw [List.getElem?_append_left (by simp; omega)]
  simp [List.getD, List.getElem?_eq_getElem (show j < s.length by omega)]

/-- The results of a function that hands back a sector and a value: read out of the sector's block. -/
theorem results_sector {fn : Func} {p u : Tmp} (h : fn.results = #[.cell p 41, .tmp u]) (tmps : Array Value) (w : World) (g : Nat) (l : List Nat) (t : TypeId) (fr : Nat × Nat) (hp : tmps.getD p undef = .pointer (some ⟨g, 0, none⟩))
    (hg : w.heap[g]? = some (.cells (cells l) t fr)) (hl : l.length = 128) : (results fn tmps).run Try.prog w = .ok (.tuple #[.agg (cells l), tmps.getD u undef]) w := by
  rw [results_cell_tmp h, hp]
  simp only [asAddr, Sem.run_pure, Result.andThen_ok]
  rw [run_loadVar_row w g t 41 (cells l) fr _ hg row_sector rfl (by rw [size_sector, cells_size, hl])]
  rfl

set_option maxHeartbeats 400000 in
theorem writer_sector (g : Nat) (l : List Nat) (f : Bool) (w : World) (h : IsWriter w g l f) :
    Calls Try.prog 135 #[.pointer (some ⟨g, 0, none⟩)] w fun e w' => e = .returned (.tuple #[.agg (cells (if f then noughts else pad l)), .int .i64 (if f then 1 else 0)]) ∧ Below w.heap.size w w' := by
  obtain ⟨c0, c1, f0, f1⟩ := h.facts
  have hz := zero_sector
  have hbld := build_sector
  have hlen := h.1
  have hgl : g < w.heap.size := (Array.getElem?_eq_some_iff.1 h.2.2).1
  have Hn := Lib.hid (heap_alloc_new w (.cells (cells noughts) 41))
  have Hb : Hid (Below w.heap.size w (w.alloc (.cells (cells noughts) 41))) := (Below.refl _ _).alloc (Nat.le_refl _) _
  cases f with
  | true =>
    go_enter Try.func135, Try.ntmps135
    go_wp2_with (refine wpList_store_sector rfl (.tmp 2) (.tmp 8) rfl w.heap.size noughts rfl rfl rfl _ _ Hn.out rfl ?_)
    all_goals
      have hgn : ((w.alloc (.cells (cells noughts) 41)).setRow w.heap.size (cells noughts)).heap[w.heap.size]? = some (.cells (cells noughts) 41 (0, 0)) := setRow_heap _ _ _ _ _ _ Hn.out
      exact bodyPost_ret (results_sector rfl _ _ w.heap.size noughts _ _ rfl hgn rfl) rfl ⟨rfl, below_setRow Hb.out (Nat.le_refl _) _⟩
  | false =>
    have hc : ∀ j, j < 128 → (w.alloc (.cells (cells noughts) 41)).cell? ⟨g, 0 + j, none⟩ = some (byteV ((pad l).getD j 0)) := fun j hj => by
      rw [Hb.out.cell (p := ⟨g, 0 + j, none⟩) hgl, cell_of_row w g _ _ _ _ h.2.2, Nat.zero_add, wCells_byte (pad_length h.1) hj]
    have Hc := Lib.hid hc
    clear hc
    go_enter Try.func135, Try.ntmps135
    go_wp2_with (first | (refine wpList_store_sector rfl (.tmp 2) (.tmp 12) rfl w.heap.size (pad l) rfl rfl (pad_length h.1) _ _ Hn.out rfl ?_) | (refine wpList_load_sector rfl (.tmp 11) rfl g 0 (pad l) rfl (pad_length h.1) Hc.out ?_))
    all_goals
      have hgn : ((w.alloc (.cells (cells noughts) 41)).setRow w.heap.size (cells (pad l))).heap[w.heap.size]? = some (.cells (cells (pad l)) 41 (0, 0)) := setRow_heap _ _ _ _ _ _ Hn.out
      exact bodyPost_ret (results_sector rfl _ _ w.heap.size (pad l) _ _ rfl hgn (pad_length hlen)) rfl ⟨rfl, below_setRow Hb.out (Nat.le_refl _) _⟩

/-! ### The reader -/
theorem fold_splice (off : Nat) : ∀ (vs : List Value) (k : Nat) (cs : Array Value), off + k + vs.length ≤ cs.size →
    (vs.zipIdx k).foldl (fun cs (p : Value × Nat) => cs.setIfInBounds (off + p.2) p.1) cs = (cs.toList.take (off + k) ++ vs ++ cs.toList.drop (off + k + vs.length)).toArray
  | [], k, cs, h => by simp
  | v :: vs, k, cs, h => by
    simp only [List.length_cons] at h
    simp only [List.zipIdx_cons, List.foldl_cons]
    rw [fold_splice off vs (k + 1) _ (by simp; omega)]
    apply Array.ext'
    simp only [Array.toList_setIfInBounds]
    have h1 : (cs.toList.set (off + k) v).take (off + (k + 1)) = cs.toList.take (off + k) ++ [v] := by
      rw [show off + (k + 1) = (off + k) + 1 by omega, List.take_succ_eq_append_getElem (by simp; omega)]
      rw [List.take_set, List.set_eq_of_length_le (by simp; omega)]
      simp
    have h2 : (cs.toList.set (off + k) v).drop (off + (k + 1) + vs.length) = cs.toList.drop (off + k + (vs.length + 1)) := by
      rw [List.drop_set_of_lt (by omega)]
      congr 1
      omega
    rw [h1, h2]
    simp

theorem reader_info : (Try.prog.info? 226).map (·.zero) = some (some (.agg (wCells noughts 0 false))) := by kernel_rfl
theorem reader_place : ((match Try.prog.underlying 226 with | some (.struct fs) => fs.toList.mapM (fun f => (Try.prog.info? f.type).map fun i => (f.offset, i.size)) | _ => none) : Option (List (Nat × Nat))) = some [(0, 128), (128, 1), (129, 1)] := by kernel_rfl

theorem build_reader (s : List Nat) (hs : s.length = 128) (w : World) : (Instr.build 226 #[(0, .agg (cells s))]).run Try.prog w = .ok (.agg (wCells s 0 false)) w := by
  refine run_build w _ _ _ ?_
  have h1 := reader_info
  have h2 := reader_place
  unfold Program.built
  cases hi : Try.prog.info? 226 with
  | none => simp [hi] at h1
  | some it =>
    simp only [hi, Option.map_some, Option.some.injEq] at h1
    cases hu : Try.prog.underlying 226 with
    | none => simp [hu] at h2
    | some d =>
      rw [hu] at h2
      cases d <;> simp only [reduceCtorEq] at h2
      simp only [h1, h2]
      have hz : (wCells noughts 0 false).size = 130 := wCells_size rfl
      have hc : (Value.agg (cells s)).cells.size = 128 := by simp [Value.cells, cells_size, hs]
      simp only [Instr.fill, List.getElem?_toArray, List.getElem?_cons_zero, Value.cells, cells_size, hs, hz]
      rw [if_neg (by decide)]
      congr 1
      have e : Array.foldl (fun (cs : Array Value) (x : Value × Nat) => cs.setIfInBounds (0 + x.snd) x.fst) (wCells noughts 0 false) (cells s).zipIdx =
          ((s.map byteV).zipIdx 0).foldl (fun cs (p : Value × Nat) => cs.setIfInBounds (0 + p.2) p.1) (wCells noughts 0 false) := by
        rw [← Array.foldl_toList]
        simp [cells]
      rw [e, fold_splice 0 (s.map byteV) 0 _ (by simp [hs, hz])]
      apply Array.ext'
      have hn : (noughts.map byteV).length = 128 := rfl
      simp only [wCells, Nat.add_zero, List.take_zero, List.nil_append, Nat.zero_add, List.length_map, hs]
      rw [List.drop_left' hn]
end Go.Proofs.Ytgakidimipipeaa
namespace Go.Proofs.Ytgakidimipipeaa
open Go.RowKit
set_option linter.unusedVariables false
set_option maxRecDepth 100000

def IsReader (w : World) (g : Nat) (s : List Nat) (n : Nat) (failed : Bool) : Prop :=
  s.length = 128 ∧ Bytes s ∧ n ≤ 128 ∧ w.heap[g]? = some (.cells (wCells s n failed) 226 (0, 0))

theorem IsReader.facts {w : World} {g : Nat} {s : List Nat} {n : Nat} {f : Bool} (h : IsReader w g s n f) :
    w.cell? ⟨g, 128, none⟩ = some (.int .i64 n) ∧ w.cell? ⟨g, 129, none⟩ = some (.bool f) ∧ w.frozen? ⟨g, 128, none⟩ = false ∧ w.frozen? ⟨g, 129, none⟩ = false := by
  obtain ⟨hs, hb, hn, hg⟩ := h
  exact ⟨by rw [cell_of_row w g _ _ _ _ hg, wCells_at hs], by rw [cell_of_row w g _ _ _ _ hg, wCells_failed hs], frozen_of_row w g _ _ _ hg, frozen_of_row w g _ _ _ hg⟩
theorem IsReader.fail {w : World} {g : Nat} {s : List Nat} {n : Nat} {f : Bool} (h : IsReader w g s n f) : IsReader (w.setCell ⟨g, 129, none⟩ (.bool true)) g s n true := by
  obtain ⟨hs, hb, hn, hg⟩ := h
  exact ⟨hs, hb, hn, by rw [heap_setCell_same w g 129 _ _ _ hg, wCells_set_failed hs]⟩
theorem IsReader.move {w : World} {g : Nat} {s : List Nat} {n : Nat} {f : Bool} (h : IsReader w g s n f) (m : Nat) (hm : m ≤ 128) : IsReader (w.setCell ⟨g, 128, none⟩ (.int .i64 m)) g s m f := by
  obtain ⟨hs, hb, hn, hg⟩ := h
  exact ⟨hs, hb, hm, by rw [heap_setCell_same w g 128 _ _ _ hg, wCells_set_at hs]⟩
theorem IsReader.reads {w : World} {g : Nat} {s : List Nat} {n : Nat} {f : Bool} (h : IsReader w g s n f) : Reads w (some ⟨g, 0, none⟩) 128 s := by
  obtain ⟨hs, hb, hn, hg⟩ := h
  refine ⟨hs, hb, .inr ⟨g, 0, rfl, (Array.getElem?_eq_some_iff.1 hg).1, fun i hi => ?_⟩⟩
  rw [cell_of_row w g _ _ _ _ hg, Nat.zero_add, wCells_byte hs hi]
  rfl
theorem IsReader.below {w w' : World} {g : Nat} {s : List Nat} {n : Nat} {f : Bool} {B : Nat} (h : IsReader w g s n f) (hb : Below B w w') (hg : g < B) : IsReader w' g s n f :=
  ⟨h.1, h.2.1, h.2.2.1, by rw [hb.block g hg]; exact h.2.2.2⟩

theorem alloc_two (w : World) (A B : Obj) : ((w.alloc A).alloc B).heap[w.heap.size + 1]? = some B := heap_alloc2_new w A B

theorem wpList_build_reader {ops : Array Oper} {rest : List Oper} {o : Oper} {a : Act} {w : World} {Q : Exit → Act → World → Prop} (hgd : o.guard = none) (x : Operand) (ho : o.op = .build 226 #[(0, x)])
    (s : List Nat) (hx : a.eval x = .agg (cells s)) (hs : s.length = 128) (h : wpList Try.prog ops Q rest (a.put o.dst (.agg (wCells s 0 false))) w) : wpList Try.prog ops Q (o :: rest) a w := by
  refine wpList_plain hgd fun K hK => ?_
  unfold Oper.wp execOp
  have e : ((#[(0, x)] : Array (Nat × Operand)).map fun (i, x) => (i, a.eval x)) = #[(0, Value.agg (cells s))] := by simp [hx]
  simp only [ho, Sem.run_bind, e, build_reader s hs w, Result.andThen_ok]
  exact hK _ _ h

set_option maxRecDepth 100000 in
theorem read_any (s : List Nat) (hs : s.length = 128) (hb : Bytes s) (w : World) :
    Calls Try.prog 138 #[.agg (cells s)] w fun e w' => e = .returned (.pointer (some ⟨w.heap.size + 1, 0, none⟩)) ∧ IsReader w' (w.heap.size + 1) s 0 false ∧ Below w.heap.size w w' := by
  have hc : ∀ j, j < 128 → (w.alloc (.cells (cells s) 41)).cell? ⟨w.heap.size, 0 + j, none⟩ = some (byteV (s.getD j 0)) := fun j hj => by
    rw [cell_of_row _ _ _ _ _ _ (heap_alloc_new w _), Nat.zero_add]
    simp [cells, List.getD, List.getElem?_eq_getElem (show j < s.length by omega)]
  have Hc := Lib.hid hc
  clear hc
  go_enter Try.func138, Try.ntmps138
  go_wp2_with (first | (refine wpList_load_sector rfl (.tmp 1) rfl w.heap.size 0 s rfl hs Hc.out ?_) | (refine wpList_build_reader rfl (.tmp 3) rfl s rfl hs ?_))
  go_ret
  exact ⟨rfl, ⟨hs, hb, by omega, heap_alloc2_new w _ _⟩, ((Below.refl _ _).alloc (Nat.le_refl _) _).alloc (by simp) _⟩

set_option maxHeartbeats 400000 in
theorem reader_num_ok (g : Nat) (s : List Nat) (n q : Nat) (w : World) (h : IsReader w g s n false) (hq : 1 ≤ q) (hq8 : q ≤ 8) (hnq : n + q ≤ 128) :
    Calls Try.prog 139 #[.pointer (some ⟨g, 0, none⟩), .int .i64 q] w fun e w' => e = .returned (.int .u64 (le ((s.drop n).take q) : Nat)) ∧ IsReader w' g s (n + q) false ∧ Only g w w' := by
  obtain ⟨c0, c1, f0, f1⟩ := h.facts
  have hrd : ∀ x, Reads (w.drewN x) (some ⟨g, 0, none⟩) 128 s := fun _ => h.reads
  go_enter Try.func139, Try.ntmps139
  go_wp2
  go_quiet ((go_at_call 143; exact Calls.quiet_of_same ((get_yes _ _ _ _ _ _ _ (hrd _) (by decide) hq hq8 hnq).mono fun _ _ ⟨h1, h2⟩ => ⟨h1, h2.symm⟩)))
  go_wp2
  go_ret
  exact ⟨rfl, by rw [show ((n : Int) + q) = ((n + q : Nat) : Int) by omega]; exact IsReader.move (w := w.drewN nq) h _ (by omega), ((Only.refl _ _).draws nq).setCell _ _⟩

set_option maxHeartbeats 800000 in
theorem reader_num_no (g : Nat) (s : List Nat) (n : Nat) (q : Int) (f : Bool) (w : World) (h : IsReader w g s n f) (hq : I64 q) (hno : f = true ∨ roomB 128 n q = false) :
    Calls Try.prog 139 #[.pointer (some ⟨g, 0, none⟩), .int .i64 q] w fun e w' => e = .returned (.int .u64 0) ∧ IsReader w' g s n true ∧ Only g w w' := by
  obtain ⟨c0, c1, f0, f1⟩ := h.facts
  have hn := h.2.2.1
  have hrd : ∀ x, Reads (w.drewN x) (some ⟨g, 0, none⟩) 128 s := fun _ => h.reads
  by_cases hr : roomB 128 n q = true
  · have hf : f = true := by simpa [hr] using hno
    subst hf
    obtain ⟨k1, k2, k3, k4⟩ := roomB_yes hr
    obtain ⟨q, rfl⟩ := Int.eq_ofNat_of_zero_le (show 0 ≤ q by omega)
    clear hno hr
    go_enter Try.func139, Try.ntmps139
    go_wp2
    go_quiet ((go_at_call 143; exact Calls.quiet_of_same ((get_yes _ _ _ _ _ _ _ (hrd _) (by decide) (by omega) (by omega) (by omega)).mono fun _ _ ⟨h1, h2⟩ => ⟨h1, h2.symm⟩)))
    go_wp2
    go_ret
    exact ⟨rfl, IsReader.fail (w := w.drewN nq) h, ((Only.refl _ _).draws nq).setCell _ _⟩
  · have hr : roomB 128 n q = false := by simpa using hr
    have Hr := Lib.hid hr
    clear hr hno
    cases f with
    | true =>
      go_enter Try.func139, Try.ntmps139
      go_wp2
      go_quiet ((go_at_call 143; exact Calls.quiet_of_same ((get_no _ _ _ _ _ _ (by decide) ⟨by omega, by omega⟩ hq Hr.out).mono fun _ _ ⟨h1, h2⟩ => ⟨h1, h2.symm⟩)))
      go_wp2
      all_goals
        go_ret
        exact ⟨rfl, IsReader.fail (w := w.drewN nq) h, ((Only.refl _ _).draws nq).setCell _ _⟩
    | false =>
      go_enter Try.func139, Try.ntmps139
      go_wp2
      go_quiet ((go_at_call 143; exact Calls.quiet_of_same ((get_no _ _ _ _ _ _ (by decide) ⟨by omega, by omega⟩ hq Hr.out).mono fun _ _ ⟨h1, h2⟩ => ⟨h1, h2.symm⟩)))
      go_wp2
      all_goals
        go_ret
        exact ⟨rfl, IsReader.fail (w := w.drewN nq) h, ((Only.refl _ _).draws nq).setCell _ _⟩

theorem reader_left (g : Nat) (s : List Nat) (n : Nat) (f : Bool) (w : World) (h : IsReader w g s n f) :
    Calls Try.prog 144 #[.pointer (some ⟨g, 0, none⟩)] w fun e w' => e = .returned (.int .i64 ((128 - n : Nat) : Int)) ∧ w = w' := by
  obtain ⟨c0, c1, f0, f1⟩ := h.facts
  have hn := h.2.2.1
  go_enter Try.func144, Try.ntmps144
  go_wp2
  go_ret
  exact ⟨by show Ending.returned (.int .i64 (128 - (n : Int))) = _; rw [show (128 - (n : Int)) = ((128 - n : Nat) : Int) by omega], rfl⟩

theorem reader_bytes_no (g : Nat) (s : List Nat) (n : Nat) (q : Int) (f : Bool) (w : World) (h : IsReader w g s n f) (hq : I64 q) (hno : f = true ∨ q < 0 ∨ 128 - (n : Int) < q) :
    Calls Try.prog 140 #[.pointer (some ⟨g, 0, none⟩), .int .i64 q] w fun e w' => e = .returned (.slice none 0 0) ∧ IsReader w' g s n true ∧ Only g w w' := by
  obtain ⟨c0, c1, f0, f1⟩ := h.facts
  have hn := h.2.2.1
  obtain ⟨q1, q2⟩ := hq
  cases f with
  | true =>
    clear hno
    go_enter Try.func140, Try.ntmps140
    go_wp2
    all_goals
      go_ret
      exact ⟨rfl, IsReader.fail h, (Only.refl _ _).setCell _ _⟩
  | false =>
    by_cases h0 : q < 0
    · clear hno
      go_enter Try.func140, Try.ntmps140
      go_wp2
      all_goals
        go_ret
        exact ⟨rfl, IsReader.fail h, (Only.refl _ _).setCell _ _⟩
    · have h1 : ((128 - n : Nat) : Int) < q := by rcases hno with h | h | h <;> first | cases h | omega
      clear hno
      go_enter Try.func140, Try.ntmps140
      go_wp2_with (go_at_call 144; refine (reader_left _ _ _ _ _ h).mono ?_; rintro e w' ⟨rfl, rfl⟩)
      all_goals
        go_ret
        exact ⟨rfl, IsReader.fail h, (Only.refl _ _).setCell _ _⟩

theorem below_setCells {B : Nat} {w w' : World} (h : Below B w w') (a : Addr) (v : Value) : Below B (w.setCell a v) (w'.setCell a v) := by
  refine ⟨h.os, h.tape, h.output, by simpa [World.setCell] using h.size, fun k hk => ?_⟩
  simp only [World.setCell, Array.getElem?_modify]
  rw [h.block k hk]

/-- What is known behind the copy that Bytes makes. -/
theorem reader_after {w w1 w2 : World} {g n q : Nat} {s : List Nat} {cur : Array Value} (h : IsReader w g s n false) (hnq : n + q ≤ 128) (hb : Below w.heap.size w w1)
    (hcur : w1.heap[w.heap.size]? = some (.cells cur 5 (0, 0))) (hsz : cur.size = q) (hw : w1.drew.setRow w.heap.size (laid cur 0 (((s.drop n).take q))) = w2) :
    w2.cell? ⟨g, 128, none⟩ = some (.int .i64 n) ∧ w2.frozen? ⟨g, 128, none⟩ = false ∧
      Owns w.heap.size (w2.setCell ⟨g, 128, none⟩ (.int .i64 ((n : Int) + q))) (.slice (some ⟨w.heap.size, 0, none⟩) q q) ((s.drop n).take q) ∧
      IsReader (w2.setCell ⟨g, 128, none⟩ (.int .i64 ((n : Int) + q))) g s (n + q) false ∧
      Below w.heap.size (w.setCell ⟨g, 128, none⟩ (.int .i64 ((n + q : Nat) : Int))) (w2.setCell ⟨g, 128, none⟩ (.int .i64 ((n : Int) + q))) := by
  have hgl : g < w.heap.size := (Array.getElem?_eq_some_iff.1 h.2.2.2).1
  have hb2 : Below w.heap.size w w2 := by rw [← hw]; exact below_setRow (hb.drew) (Nat.le_refl _) _
  have hr2 := h.below hb2 hgl
  obtain ⟨c0, _, f0, _⟩ := hr2.facts
  have hlen : ((s.drop n).take q).length = q := by have := h.1; simp; omega
  have hg2 : w2.heap[w.heap.size]? = some (.cells (laid cur 0 ((s.drop n).take q)) 5 (0, 0)) := by
    rw [← hw]; exact setRow_heap _ _ _ _ _ _ (show w1.drew.heap[w.heap.size]? = _ from hcur)
  refine ⟨c0, f0, ⟨(h.2.1.drop n).take q, ?_⟩, ?_, ?_⟩
  · rw [hlen]
    refine ⟨by rw [List.length_map, hlen, Nat.mul_one], .inr ⟨w.heap.size, q, laid cur 0 ((s.drop n).take q), rfl, Nat.le_refl _, ?_, Nat.le_refl _, by unfold maxLen; omega, ?_, ?_⟩⟩
    · rw [Below.heap_setCell _ _ _ _ (by simp; omega)]; exact hg2
    · rw [laid_size _ _ _ (by omega), hsz, Nat.mul_one]
    · rw [Nat.mul_one]
      simp only [laid, Nat.zero_add, List.take_zero, List.nil_append]
      rw [List.take_left' (by rw [List.length_map, hlen])]
  · rw [show ((n : Int) + q) = ((n + q : Nat) : Int) by omega]
    exact hr2.move _ (by omega)
  · rw [show ((n : Int) + q) = ((n + q : Nat) : Int) by omega]
    exact below_setCells hb2 _ _

set_option maxHeartbeats 800000 in
theorem reader_bytes_ok (g : Nat) (s : List Nat) (n q : Nat) (w : World) (h : IsReader w g s n false) (hnq : n + q ≤ 128) :
    Calls Try.prog 140 #[.pointer (some ⟨g, 0, none⟩), .int .i64 q] w fun e w' => ∃ v, e = .returned v ∧ Owns w.heap.size w' v ((s.drop n).take q) ∧ IsReader w' g s (n + q) false ∧ Below w.heap.size (w.setCell ⟨g, 128, none⟩ (.int .i64 ((n + q : Nat) : Int))) w' := by
  obtain ⟨c0, c1, f0, f1⟩ := h.facts
  obtain ⟨i0, hi, hz0, hz1, hz2⟩ := info_parts info_u8
  have t1 : ¬ ((q : Int) < 0) := by omega
  have t2 : ¬ (128 - n < q) := by omega
  have t3 : ¬ (((128 - n : Nat) : Int) < q) := by omega
  go_enter Try.func140, Try.ntmps140
  go_wp2_with (first | (go_at_call 144; refine (reader_left _ _ _ _ _ h).mono ?_; rintro e w' ⟨rfl, rfl⟩) | (at_make; refine wpList_make_full _ rfl _ _ 80 rfl w.heap.size 5 i0 (.int .u8 0) 1 Try.underlying80 hi hz0 hz1 _ _ _ _ q rfl rfl rfl rfl (by rw [hz2]; omega) (by unfold maxLen; omega) (Nat.le_refl _) ?_; intro w1 hown hgrow))
  have hb1 : Below w.heap.size w w1 := (Below.refl _ _).grown hgrow (Nat.le_refl _) (fun k hk => by cases hk)
  have hgl : g < w.heap.size := (Array.getElem?_eq_some_iff.1 h.2.2.2).1
  have hr1 := h.below hb1 hgl
  obtain ⟨d0, d1, _, _⟩ := hr1.facts
  have hcur : ∃ cur, w1.heap[w.heap.size]? = some (.cells cur 5 (0, 0)) ∧ cur.size = q := by
    rcases hown.2 with ⟨hv, _⟩ | ⟨g', cap, cur, hv, _, hg, _, _, hs, _⟩
    · cases hv
    · cases hv; exact ⟨cur, hg, by rw [hs, Nat.mul_one]⟩
  obtain ⟨cur, hcur, hsz⟩ := hcur
  have hrd : Reads w1.drew (some ⟨g, 0, none⟩) 128 s := hr1.reads
  have hA := Lib.hid (fun w2 => reader_after (w2 := w2) h hnq hb1 hcur hsz)
  have Hcur := Lib.hid hcur
  have Hsz := Lib.hid hsz
  clear hcur hsz hown hgrow c0 c1 f0 f1 hi hz0 hz1 hz2 t1 t2 t3 h hb1 hr1
  by_cases hn : n = 128
  · subst hn
    obtain rfl : q = 0 := by omega
    go_still_tail 9, (by kernel_rfl)
    change wpList _ _ _ _ _ w1.drew
    refine wpList_copy_bytes rfl (.tmp 25) (.tmp 33) rfl _ _ _ rfl _ _ _ rfl (s.drop 128) ?_ w.heap.size 0 cur _ (show w1.drew.heap[_]? = _ from Hcur.out) 0 rfl (by simp) (by omega) ?_
    · exact ⟨by have := hrd.1; simp; omega, hrd.2.1.drop 128, .inl (List.drop_of_length_le (by have := hrd.1; omega))⟩
    obtain ⟨w2, hw2⟩ : ∃ w2, w1.drew.setRow w.heap.size (laid cur 0 ((s.drop 128).take 0)) = w2 := ⟨_, rfl⟩
    rw [hw2]
    obtain ⟨e0, e1, e2, e3, e4⟩ := hA.out w2 hw2
    clear hw2 hA d0 d1 hrd
    go_wp2
    go_ret
    exact ⟨_, rfl, e2, e3, e4⟩
  · have h1 : (0 : Int) ≤ n ∧ (n : Int) ≤ 128 := by omega
    have h2 : ¬ 128 = n := by omega
    have hrd2 := hrd.part n (128 - n) (by omega)
    rw [Nat.zero_add, List.take_of_length_le (by have := hrd.1; simp; omega)] at hrd2
    go_still_tail 9, (by kernel_rfl)
    change wpList _ _ _ _ _ w1.drew
    refine wpList_copy_bytes rfl (.tmp 25) (.tmp 33) rfl _ _ _ rfl _ _ _ rfl (s.drop n) hrd2 w.heap.size 0 cur _ (show w1.drew.heap[_]? = _ from Hcur.out) q (Nat.min_eq_right (by omega)).symm (fun _ => rfl) (by rw [Hsz.out]; omega) ?_
    obtain ⟨w2, hw2⟩ : ∃ w2, w1.drew.setRow w.heap.size (laid cur 0 ((s.drop n).take q)) = w2 := ⟨_, rfl⟩
    rw [hw2]
    obtain ⟨e0, e1, e2, e3, e4⟩ := hA.out w2 hw2
    clear hw2 hA d0 d1 hrd hrd2
    go_wp2
    go_ret
    exact ⟨_, rfl, e2, e3, e4⟩

/-- What Close answers of what is left. -/
def closeOf (s : List Nat) (n : Nat) : Int := if (s.drop n).all (· == 0) then 0 else 21
theorem closeOf_no {s : List Nat} {n k : Nat} (hs : s.length = 128) (hk : n + k < 128) (h : s.getD (n + k) 0 ≠ 0) : closeOf s n = 21 := by
  unfold closeOf
  rw [if_neg]
  intro ha
  rw [List.all_eq_true] at ha
  have h1 : s.getD (n + k) 0 ∈ s.drop n := by
    rw [List.mem_iff_getElem?]
    exact ⟨k, by rw [List.getElem?_drop, List.getElem?_eq_getElem (by omega)]; simp [List.getD, List.getElem?_eq_getElem (show n + k < s.length by omega)]⟩
  exact h (by simpa using ha _ h1)
theorem closeOf_yes {s : List Nat} {n : Nat} (hs : s.length = 128) (hn : n ≤ 128) (h : ∀ j, j < 128 - n → s.getD (n + j) 0 = 0) : closeOf s n = 0 := by
  unfold closeOf
  rw [if_pos]
  rw [List.all_eq_true]
  intro x hx
  obtain ⟨j, hj⟩ := List.mem_iff_getElem?.1 hx
  rw [List.getElem?_drop] at hj
  have hlt := (List.getElem?_eq_some_iff.1 hj).1
  have := h j (by omega)
  simp [List.getD, hj] at this
  simpa using this

end Go.Proofs.Ytgakidimipipeaa
namespace Go.Proofs.Ytgakidimipipeaa

def crcBit (c : Nat) : Nat := if c % 2 = 1 then c / 2 ^^^ 3988292384 else c / 2
def crcBits : Nat → Nat → Nat
  | 0, c => c
  | k + 1, c => crcBit (crcBits k c)
def crcByte (c x : Nat) : Nat := crcBits 8 (c ^^^ x)
def crcRaw (l : List Nat) : Nat := l.foldl crcByte 4294967295
def crc (l : List Nat) : Nat := 4294967295 - crcRaw l

theorem xor_lt32 {a b : Nat} (ha : a < 4294967296) (hb : b < 4294967296) : a ^^^ b < 4294967296 :=
  Nat.xor_lt_two_pow (n := 32) ha hb
theorem crcBit_lt {c : Nat} (h : c < 4294967296) : crcBit c < 4294967296 := by
  unfold crcBit
  split
  · exact xor_lt32 (by omega) (by decide)
  · omega
theorem crcBits_lt {c : Nat} (h : c < 4294967296) (k : Nat) : crcBits k c < 4294967296 := by
  induction k with
  | zero => exact h
  | succ k ih => exact crcBit_lt ih
theorem crcByte_lt {c x : Nat} (h : c < 4294967296) (hx : x < 256) : crcByte c x < 4294967296 :=
  crcBits_lt (xor_lt32 h (by omega)) 8
theorem crcRaw_snoc (l : List Nat) (x : Nat) : crcRaw (l ++ [x]) = crcByte (crcRaw l) x := by simp [crcRaw]
theorem crcFold_lt (l : List Nat) (hb : Bytes l) : ∀ c, c < 4294967296 → l.foldl crcByte c < 4294967296 := by
  induction l with
  | nil => intro c h; exact h
  | cons x l ih => intro c h; exact ih (fun y hy => hb y (by simp [hy])) _ (crcByte_lt h (hb x (by simp)))
theorem crcRaw_lt (l : List Nat) (hb : Bytes l) : crcRaw l < 4294967296 := crcFold_lt l hb _ (by decide)
theorem crc_lt (l : List Nat) : crc l < 4294967296 := by unfold crc; omega
end Go.Proofs.Ytgakidimipipeaa
namespace Go.Proofs.Ytgakidimipipeaa
open Go.RowKit
set_option linter.unusedVariables false
set_option maxRecDepth 100000

theorem xor_byte (A X : Nat) (hA : A < 4294967296) (hX : X < 256) : bits .xor .u32 (A : Int) ((X : Int) % 4294967296) = ((A ^^^ X : Nat) : Int) := by
  rw [show ((X : Int) % 4294967296) = (X : Int) by omega]
  exact u32_xor_nat A X hA (by omega)
theorem xor_poly (m : Nat) (hm : m < 4294967296) : bits .xor .u32 ((m : Int) / 2) 3988292384 = ((m / 2 ^^^ 3988292384 : Nat) : Int) := by
  have := u32_xor_nat (m / 2) 3988292384 (by omega) (by decide)
  rw [← this]
  rfl
theorem bit_odd {m j c : Nat} (h : Hid (m = crcBits j c)) (ho : m % 2 = 1) : Hid (m / 2 ^^^ 3988292384 = crcBits (j + 1) c) := by
  show _ = _
  rw [crcBits, ← h.out, crcBit, if_pos ho]
theorem bit_even {m j c : Nat} (h : Hid (m = crcBits j c)) (ho : ¬ m % 2 = 1) : Hid (m / 2 = crcBits (j + 1) c) := by
  show _ = _
  rw [crcBits, ← h.out, crcBit, if_neg ho]

theorem crc_end {A : Nat} {l : List Nat} (h : Hid (A = crcRaw l)) (hA : A < 4294967296) : Ending.returned (.int .u32 (4294967295 - (A : Int))) = .returned (.int .u32 ((crc l : Nat) : Int)) := by
  have e : ((crc l : Nat) : Int) = 4294967295 - (A : Int) := by
    unfold crc
    rw [← h.out]
    omega
  rw [e]

set_option maxHeartbeats 800000 in
theorem rcrc_any (a : Option Addr) (len cap : Nat) (l : List Nat) (w : World) (hr : Reads w a len l) (hl : len ≤ maxLen) :
    Calls Try.prog 141 #[.slice a len cap] w fun e w' => e = .returned (.int .u32 (crc l : Nat)) ∧ w = w' := by
  have hm : len ≤ 9223372036854775807 := by unfold maxLen at hl; omega
  obtain ⟨hlen, hb, hr⟩ := hr
  have HL := Lib.hid hlen
  clear hlen
  go_enter Try.func141, Try.ntmps141
  go_wp2
  go_loop [3, 4, 5] (fun c i _ => ∃ k : Nat, k ≤ len ∧ i = .int .i64 k ∧ c = .int .u32 (crcRaw (l.take k) : Nat)) (fun _ i _ => len - (intOf i).toNat)
  case atStart => exact ⟨0, by omega, rfl, rfl⟩
  case round =>
    obtain ⟨k, hk, rfl, rfl⟩ := hrel
    by_cases hlt : k < len
    · rcases hr with rfl | ⟨b, off, rfl, hbl, hc⟩
      · have := HL.out; simp at this; omega
      have hcell := hc k hlt
      clear hc
      have hA := crcRaw_lt _ (hb.take k)
      have hX := hb.getD k
      have hsn := Lib.hid (take_snoc_getD l k (by have := HL.out; omega))
      have eX : l[k]?.getD 0 = l.getD k 0 := by simp [List.getD]
      have EX := Lib.hid eX
      clear eX
      obtain ⟨A, eA⟩ : ∃ A, crcRaw (l.take k) = A := ⟨_, rfl⟩
      have EA := Lib.hid eA
      rw [eA] at hA ⊢
      clear eA
      go_wp2
      go_loop [3, 5] (fun c i => ∃ j m : Nat, j ≤ 8 ∧ i = .int .i64 j ∧ c = .int .u32 (m : Nat) ∧ m < 4294967296 ∧ Hid (m = crcBits j (A ^^^ l.getD k 0))) (fun _ i => 8 - (intOf i).toNat)
      case atStart => exact ⟨0, A ^^^ l.getD k 0, by omega, rfl, by rw [EX.out, xor_byte _ _ hA hX], xor_lt32 hA (by omega), rfl⟩
      case round =>
        obtain ⟨j, m, hj, rfl, rfl, hm32, HM⟩ := hrel
        by_cases hlt8 : j < 8
        · by_cases hodd : m % 2 = 1
          · have hodd' : (m : Int) % 2 = 1 := by omega
            have hst := bit_odd HM hodd
            have hx := xor_poly m hm32
            go_wp2
            go_round
            case rel => exact ⟨j + 1, _, by omega, by go_num, rfl, xor_lt32 (by omega) (by decide), hst⟩
            case measure => simp [intOf]; omega
          · have hodd' : (m : Int) % 2 ≠ 1 := by omega
            have hst := bit_even HM hodd
            go_wp2
            go_round
            case rel => exact ⟨j + 1, m / 2, by omega, by go_num, by go_num, by omega, hst⟩
            case measure => simp [intOf]; omega
        · have e8 : j = 8 := by omega
          subst e8
          have hfin : Hid (m = crcRaw (l.take (k + 1))) := by
            show _ = _
            rw [hsn.out, crcRaw_snoc, EA.out, HM.out]
            rfl
          go_wp2
          go_round
          case rel => exact ⟨k + 1, by omega, by go_num, by rw [← hfin.out]⟩
          case measure => simp [intOf]; omega
    · have hlast : Hid (crcRaw (l.take k) = crcRaw l) := by
        show _ = _
        rw [List.take_of_length_le (by have := HL.out; omega)]
      have hA := crcRaw_lt _ (hb.take k)
      obtain ⟨A, eA⟩ : ∃ A, crcRaw (l.take k) = A := ⟨_, rfl⟩
      rw [eA] at hA hlast ⊢
      clear eA
      go_wp2
      go_ret
      exact ⟨crc_end hlast hA, rfl⟩

theorem mask_step (m : Nat) (hm : m < 4294967296) :
    bits .xor .u32 ((m : Int) / 2) (bits .and .u32 3988292384 (-bits .and .u32 (m : Int) 1 % 4294967296)) = ((crcBit m : Nat) : Int) := by
  have h1 : bits .and .u32 (m : Int) 1 = ((m % 2 : Nat) : Int) := by
    have := u32_and_nat m 1 hm (by decide)
    rw [Nat.and_one_is_mod] at this
    exact this
  rw [h1]
  unfold crcBit
  by_cases ho : m % 2 = 1
  · rw [if_pos ho, ho]
    have h2 : bits .and .u32 3988292384 (-((1 : Nat) : Int) % 4294967296) = 3988292384 := by
      have := u32_and_nat 3988292384 4294967295 (by decide) (by decide)
      exact this
    rw [h2]
    exact xor_poly m hm
  · have h0 : m % 2 = 0 := by omega
    rw [if_neg ho, h0]
    have h2 : bits .and .u32 3988292384 (-((0 : Nat) : Int) % 4294967296) = 0 := by
      have := u32_and_nat 3988292384 0 (by decide) (by decide)
      exact this
    rw [h2]
    have := u32_xor_nat (m / 2) 0 (by omega) (by decide)
    rw [Nat.xor_zero] at this
    exact this
theorem not_u32 (A : Nat) (hA : A < 4294967296) : bits .xor .u32 IntKind.u32.max (A : Int) = 4294967295 - (A : Int) := by
  show IntKind.u32.wrap ((BitVec.ofInt 32 4294967295 ^^^ BitVec.ofInt 32 (A : Int)).toNat : Int) = _
  have h1 : BitVec.ofInt 32 4294967295 = BitVec.allOnes 32 := by decide
  rw [h1, BitVec.allOnes_xor, BitVec.toNat_not, ofInt_u32 A hA, IntKind.wrap_u32']
  omega

set_option maxHeartbeats 800000 in
theorem crc_any (a : Option Addr) (len cap : Nat) (l : List Nat) (w : World) (hr : Reads w a len l) (hl : len ≤ maxLen) :
    Calls Try.prog 137 #[.slice a len cap] w fun e w' => e = .returned (.int .u32 (crc l : Nat)) ∧ w = w' := by
  have hm : len ≤ 9223372036854775807 := by unfold maxLen at hl; omega
  obtain ⟨hlen, hb, hr⟩ := hr
  have HL := Lib.hid hlen
  clear hlen
  go_enter Try.func137, Try.ntmps137
  go_wp2
  go_loop [3, 7] (fun c i => ∃ k : Nat, k ≤ len ∧ i = .int .i64 k ∧ c = .int .u32 (crcRaw (l.take k) : Nat)) (fun _ i => len - (intOf i).toNat)
  case atStart => exact ⟨0, by omega, rfl, rfl⟩
  case round =>
    obtain ⟨k, hk, rfl, rfl⟩ := hrel
    by_cases hlt : k < len
    · rcases hr with rfl | ⟨b, off, rfl, hbl, hc⟩
      · have := HL.out; simp at this; omega
      have hcell := hc k hlt
      clear hc
      have hA := crcRaw_lt _ (hb.take k)
      have hX := hb.getD k
      have hsn := Lib.hid (take_snoc_getD l k (by have := HL.out; omega))
      have eX : l[k]?.getD 0 = l.getD k 0 := by simp [List.getD]
      have EX := Lib.hid eX
      clear eX
      obtain ⟨A, eA⟩ : ∃ A, crcRaw (l.take k) = A := ⟨_, rfl⟩
      have EA := Lib.hid eA
      rw [eA] at hA ⊢
      clear eA
      go_wp2
      go_loop [3, 17] (fun c i => ∃ j m : Nat, j ≤ 8 ∧ i = .int .i64 j ∧ c = .int .u32 (m : Nat) ∧ m < 4294967296 ∧ Hid (m = crcBits j (A ^^^ l.getD k 0))) (fun _ i => 8 - (intOf i).toNat)
      case atStart => exact ⟨0, A ^^^ l.getD k 0, by omega, rfl, by rw [EX.out, xor_byte _ _ hA hX], xor_lt32 hA (by omega), rfl⟩
      case round =>
        obtain ⟨j, m, hj, rfl, rfl, hm32, HM⟩ := hrel
        by_cases hlt8 : j < 8
        · have hst : Hid (crcBit m = crcBits (j + 1) (A ^^^ l.getD k 0)) := by show _ = _; rw [crcBits, ← HM.out]
          have hms := mask_step m hm32
          have HS := Lib.hid hms
          clear hms
          go_wp2
          go_round
          case rel => exact ⟨j + 1, crcBit m, by omega, by go_num, by rw [HS.out], crcBit_lt hm32, hst⟩
          case measure => simp [intOf]; omega
        · have e8 : j = 8 := by omega
          subst e8
          have hfin : Hid (m = crcRaw (l.take (k + 1))) := by
            show _ = _
            rw [hsn.out, crcRaw_snoc, EA.out, HM.out]
            rfl
          go_wp2
          go_round
          case rel => exact ⟨k + 1, by omega, by go_num, by rw [← hfin.out]⟩
          case measure => simp [intOf]; omega
    · have hlast : Hid (crcRaw (l.take k) = crcRaw l) := by
        show _ = _
        rw [List.take_of_length_le (by have := HL.out; omega)]
      have hA := crcRaw_lt _ (hb.take k)
      obtain ⟨A, eA⟩ : ∃ A, crcRaw (l.take k) = A := ⟨_, rfl⟩
      rw [eA] at hA hlast ⊢
      clear eA
      go_wp2
      go_ret
      have hno := not_u32 A hA
      exact ⟨by show Ending.returned (.int .u32 (bits .xor .u32 IntKind.u32.max (A : Int))) = _; rw [hno]; exact crc_end hlast hA, rfl⟩
end Go.Proofs.Ytgakidimipipeaa
