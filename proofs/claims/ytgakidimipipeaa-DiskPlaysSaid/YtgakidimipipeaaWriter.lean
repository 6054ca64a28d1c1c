/- The writer of a sector, by its walks. -/
import Derived.Test.YtgakidimipipeaaPutOwn
import Derived.StillTailTactics
import Derived.Laws.CopyOwn
namespace Go.Proofs.Ytgakidimipipeaa
open Go.RowKit
set_option linter.unusedVariables false
set_option maxRecDepth 100000

/-- Nothing but block g has changed. -/
structure Only (g : Nat) (w w' : World) : Prop where
  os : w'.os = w.os
  tape : w'.tape = w.tape
  output : w'.output = w.output
  size : w'.heap.size = w.heap.size
  block : ∀ k, k ≠ g → w'.heap[k]? = w.heap[k]?
theorem Only.refl (g : Nat) (w : World) : Only g w w := ⟨rfl, rfl, rfl, rfl, fun _ _ => rfl⟩
theorem Only.trans {g : Nat} {a b c : World} (h : Only g a b) (k : Only g b c) : Only g a c :=
  ⟨k.os.trans h.os, k.tape.trans h.tape, k.output.trans h.output, k.size.trans h.size, fun i hi => (k.block i hi).trans (h.block i hi)⟩
theorem Only.draws {g : Nat} {a b : World} (h : Only g a b) (n : Nat) : Only g a (b.drewN n) := h.trans ⟨rfl, rfl, rfl, rfl, fun _ _ => rfl⟩
theorem Only.setRow {g : Nat} {a b : World} (h : Only g a b) (cs : Array Value) : Only g a (b.setRow g cs) :=
  h.trans ⟨rfl, rfl, rfl, by simp, fun k hk => setRow_other b g k cs hk⟩
theorem Only.setCell {g : Nat} {a b : World} (h : Only g a b) (o : Nat) (v : Value) : Only g a (b.setCell ⟨g, o, none⟩ v) :=
  h.trans ⟨rfl, rfl, rfl, by simp [World.setCell], fun k hk => Below.heap_setCell _ _ _ _ hk⟩
theorem Only.below {g B : Nat} {a b : World} (h : Only g a b) (hB : B ≤ g) : Below B a b :=
  ⟨h.os, h.tape, h.output, by rw [h.size]; exact Nat.le_refl _, fun k hk => h.block k (by omega)⟩

/-- A sector's bytes: what is written, and noughts. -/
def pad (l : List Nat) : List Nat := l ++ List.replicate (128 - l.length) 0
theorem pad_length {l : List Nat} (h : l.length ≤ 128) : (pad l).length = 128 := by simp [pad]; omega
theorem pad_bytes {l : List Nat} (h : Bytes l) : Bytes (pad l) := h.append (by intro x hx; have := List.eq_of_mem_replicate hx; omega)

/-- The block of a writer: its sector's bytes, how many are written, and whether it has failed. -/
def wCells (s : List Nat) (n : Nat) (failed : Bool) : Array Value := (s.map byteV ++ [Value.int .i64 n, Value.bool failed]).toArray
def IsWriter (w : World) (g : Nat) (l : List Nat) (failed : Bool) : Prop :=
  l.length ≤ 128 ∧ Bytes l ∧ w.heap[g]? = some (.cells (wCells (pad l) l.length failed) 207 (0, 0))

theorem wCells_size {s : List Nat} {n : Nat} {f : Bool} (h : s.length = 128) : (wCells s n f).size = 130 := by simp [wCells, h]
theorem wCells_at {s : List Nat} {n : Nat} {f : Bool} (h : s.length = 128) : (wCells s n f)[128]? = some (.int .i64 n) := by simp [wCells, h]
theorem wCells_failed {s : List Nat} {n : Nat} {f : Bool} (h : s.length = 128) : (wCells s n f)[129]? = some (.bool f) := by
  simp only [wCells, List.getElem?_toArray]
  rw [List.getElem?_append_right (by simp; omega)]
  simp [h]
theorem wCells_set_failed {s : List Nat} {n : Nat} {f : Bool} (h : s.length = 128) (b : Bool) : (wCells s n f).setIfInBounds 129 (.bool b) = wCells s n b := by
  apply Array.ext'
  rw [Array.toList_setIfInBounds]
  simp only [wCells]
  rw [List.set_append_right _ _ (by simp; omega)]
  simp [h]
theorem wCells_set_at {s : List Nat} {n : Nat} {f : Bool} (h : s.length = 128) (m : Nat) : (wCells s n f).setIfInBounds 128 (.int .i64 m) = wCells s m f := by
  apply Array.ext'
  rw [Array.toList_setIfInBounds]
  simp only [wCells]
  rw [List.set_append_right _ _ (by simp; omega)]
  simp [h]
theorem laid_wCells {s : List Nat} {n : Nat} {f : Bool} (h : s.length = 128) (p : Nat) (l : List Nat) (hp : p + l.length ≤ 128) :
    laid (wCells s n f) p l = wCells (s.take p ++ l ++ s.drop (p + l.length)) n f := by
  apply Array.ext'
  simp only [laid, wCells, List.map_append, List.map_take, List.map_drop]
  rw [List.take_append_of_le_length (by simp; omega), List.drop_append_of_le_length (by simp; omega)]
  simp [List.append_assoc]
theorem pad_more {l m : List Nat} (h : l.length + m.length ≤ 128) : (pad l).take l.length ++ m ++ (pad l).drop (l.length + m.length) = pad (l ++ m) := by
  unfold pad
  rw [List.take_left' rfl, List.drop_append, List.drop_of_length_le (by omega), List.nil_append]
  rw [List.append_assoc, List.append_assoc]
  congr 2
  rw [List.drop_replicate, List.length_append]
  congr 1
  omega

theorem IsWriter.facts {w : World} {g : Nat} {l : List Nat} {f : Bool} (h : IsWriter w g l f) :
    w.cell? ⟨g, 128, none⟩ = some (.int .i64 l.length) ∧ w.cell? ⟨g, 129, none⟩ = some (.bool f) ∧ w.frozen? ⟨g, 128, none⟩ = false ∧ w.frozen? ⟨g, 129, none⟩ = false := by
  obtain ⟨hl, hb, hg⟩ := h
  exact ⟨by rw [cell_of_row w g _ _ _ _ hg, wCells_at (pad_length hl)], by rw [cell_of_row w g _ _ _ _ hg, wCells_failed (pad_length hl)], frozen_of_row w g _ _ _ hg, frozen_of_row w g _ _ _ hg⟩
theorem IsWriter.fail {w : World} {g : Nat} {l : List Nat} {f : Bool} (h : IsWriter w g l f) : IsWriter (w.setCell ⟨g, 129, none⟩ (.bool true)) g l true := by
  obtain ⟨hl, hb, hg⟩ := h
  exact ⟨hl, hb, by rw [heap_setCell_same w g 129 _ _ _ hg, wCells_set_failed (pad_length hl)]⟩

theorem writer_num_failed (g : Nat) (l : List Nat) (q : Int) (n : Nat) (w : World) (h : IsWriter w g l true) :
    Calls Try.prog 133 #[.pointer (some ⟨g, 0, none⟩), .int .i64 q, .int .u64 n] w fun e w' => e = .returned (.tuple #[]) ∧ IsWriter w' g l true ∧ Only g w w' := by
  obtain ⟨c0, c1, f0, f1⟩ := h.facts
  go_enter Try.func133, Try.ntmps133
  go_wp2
  go_quiet (fail)
  go_wp2
  exact bodyPost_ret (results_none rfl _ _ _) rfl ⟨rfl, IsWriter.fail (w := w.drewN nq) h, ((Only.refl _ _).draws nq).setCell _ _⟩

set_option maxHeartbeats 800000 in
theorem writer_num_no (g : Nat) (l : List Nat) (q : Int) (n : Nat) (w : World) (h : IsWriter w g l false) (hq : I64 q) (hn : n < 18446744073709551616) (hno : roomB 128 l.length q = false ∨ hasB q n = false) :
    Calls Try.prog 133 #[.pointer (some ⟨g, 0, none⟩), .int .i64 q, .int .u64 n] w fun e w' => e = .returned (.tuple #[]) ∧ IsWriter w' g l true ∧ Only g w w' := by
  obtain ⟨c0, c1, f0, f1⟩ := h.facts
  have hl := h.1
  have Hno := Lib.hid hno
  clear hno
  go_enter Try.func133, Try.ntmps133
  go_wp2
  go_quiet ((go_at_call 136; exact Calls.quiet_of_same ((put_no _ _ _ _ _ _ _ (by decide) ⟨by omega, by omega⟩ hq hn Hno.out).mono fun _ _ ⟨h1, h2⟩ => ⟨h1, h2.symm⟩)))
  go_wp2
  exact bodyPost_ret (results_none rfl _ _ _) rfl ⟨rfl, IsWriter.fail (w := w.drewN nq) h, ((Only.refl _ _).draws nq).setCell _ _⟩

set_option maxHeartbeats 800000 in
theorem writer_num_ok (g : Nat) (l : List Nat) (q : Nat) (n : Nat) (w : World) (h : IsWriter w g l false) (hq : 1 ≤ q) (hq8 : q ≤ 8) (hlq : l.length + q ≤ 128) (hn : n < 256 ^ q) :
    Calls Try.prog 133 #[.pointer (some ⟨g, 0, none⟩), .int .i64 q, .int .u64 n] w fun e w' => e = .returned (.tuple #[]) ∧ IsWriter w' g (l ++ low n q) false ∧ Only g w w' := by
  obtain ⟨c0, c1, f0, f1⟩ := h.facts
  have hl := h.1
  go_enter Try.func133, Try.ntmps133
  go_wp2
  go_still_tail 15, (by kernel_rfl)
  change wpList _ _ _ _ _ w.drew
  go_wp2_with fail
  refine (put_yes g 0 128 128 _ _ l.length q n w.drew (show w.drew.heap[g]? = _ from h.2.2) (by rw [wCells_size (pad_length hl)]; decide) (by decide) hq hq8 hlq hn).mono ?_
  rintro e w1 ⟨rfl, hw1⟩
  have hll := low_length n q
  have hlp : (l ++ low n q).length = l.length + q := by rw [List.length_append, hll]
  have hgw : w1.heap[g]? = some (.cells (wCells (pad (l ++ low n q)) l.length false) 207 (0, 0)) := by
    rw [← hw1, setRow_heap _ _ _ _ _ _ (show w.drew.heap[g]? = _ from h.2.2), Nat.zero_add, laid_wCells (pad_length hl) _ _ (by omega), pad_more (by omega)]
  have ho : Only g w w1 := by rw [← hw1]; exact ((Only.refl _ _).draws 1).setRow _
  have d0 : w1.cell? ⟨g, 128, none⟩ = some (.int .i64 l.length) := by rw [cell_of_row w1 g _ _ _ _ hgw, wCells_at (pad_length (by omega))]
  have e0 : w1.frozen? ⟨g, 128, none⟩ = false := frozen_of_row w1 g _ _ _ hgw
  have hend : IsWriter (w1.setCell ⟨g, 128, none⟩ (.int .i64 ((l.length : Int) + q))) g (l ++ low n q) false := by
    refine ⟨by omega, h.2.1.append (low_bytes n q), ?_⟩
    rw [heap_setCell_same w1 g 128 _ _ _ hgw, show ((l.length : Int) + q) = ((l.length + q : Nat) : Int) by omega, wCells_set_at (pad_length (by omega)), hlp]
  clear hw1 hgw hll hlp c0 c1 f0 f1 h
  go_wp2
  go_end0
  exact ⟨rfl, hend, ho.setCell _ _⟩

/-- 'copy(into, bytes)', the target lying in a block that is known whole. -/
theorem wpList_copy_bytes {w : World} {ops : Array Oper} {rest : List Oper} {o : Oper} {a : Act} {Q : Exit → Act → World → Prop} (hgd : o.guard = none) (d s : Operand)
    (ho : o.op = .call { callee := .builtin .copy, args := #[d, s], argTypes := #[80, 80] })
    (dp : Option Addr) (dLen dCap : Nat) (hd : a.eval d = .slice dp dLen dCap) (sa : Option Addr) (m c : Nat) (hs : a.eval s = .slice sa m c) (l : List Nat) (hr : Reads w sa m l)
    (g off : Nat) (cur : Array Value) (e0 : TypeId) (hg : w.heap[g]? = some (.cells cur e0 (0, 0))) (k : Nat) (hk : k = Nat.min m dLen) (hp : 0 < k → dp = some ⟨g, off, none⟩) (hfit : off + k ≤ cur.size)
    (h : wpList Try.prog ops Q rest (a.put o.dst (goInt k)) (w.setRow g (laid cur off (l.take k)))) : wpList Try.prog ops Q (o :: rest) a w := by
  have hsz : (Try.prog.info? 5).map (·.size) = some 1 := by kernel_rfl
  by_cases h0 : k = 0
  · subst h0
    refine wpList_copy_nothing hgd d s 80 80 ho 5 Try.underlying80 hsz dp sa dLen dCap m c hd hs hk.symm ?_
    rw [List.take_zero, laid_nil, setRow_self _ _ _ _ _ hg] at h
    exact h
  · obtain rfl := hp (by omega)
    obtain ⟨hlen, hb, hr⟩ := hr
    have hkm : k ≤ m := by rw [hk]; exact Nat.min_le_left _ _
    rcases hr with rfl | ⟨b, off', rfl, _, hc⟩
    · simp at hlen; omega
    · have hcs : ((l.take k).map byteV).length = k := by simp; omega
      refine wpList_copy_own hgd d s 80 80 ho 5 Try.underlying80 hsz g off dLen dCap ⟨b, off', none⟩ m c hd hs cur e0 hg ((l.take k).map byteV) (by rw [hcs]; exact hk) ?_ (by rw [hcs]; exact hfit) (byteV_oneCell _) ?_
      · intro j u hu
        simp only [List.getElem?_map, Option.map_eq_some_iff] at hu
        obtain ⟨y, hy, rfl⟩ := hu
        rw [List.getElem?_take] at hy
        split at hy
        · rename_i hjk
          have hadd : (⟨b, off', none⟩ : Addr).add j = ⟨b, off' + j, none⟩ := by unfold Addr.add; split <;> simp_all
          rw [hadd, hc j (by omega)]
          simp [List.getD, hy, byteV]
        · cases hy
      · rw [hcs]
        have e : (l.take k).length = k := by simp; omega
        unfold laid at h
        rw [List.append_assoc, e] at h
        exact h

theorem pad_noughts (l : List Nat) (k : Nat) (h : l.length + k ≤ 128) : pad (l ++ List.replicate k 0) = pad l := by
  unfold pad
  rw [List.append_assoc, List.replicate_append_replicate]
  congr 2
  simp
  omega

theorem writer_bytes_failed (g : Nat) (l : List Nat) (q : Int) (a : Option Addr) (len cap : Nat) (w : World) (h : IsWriter w g l true) :
    Calls Try.prog 134 #[.pointer (some ⟨g, 0, none⟩), .int .i64 q, .slice a len cap] w fun e w' => e = .returned (.tuple #[]) ∧ IsWriter w' g l true ∧ Only g w w' := by
  obtain ⟨c0, c1, f0, f1⟩ := h.facts
  go_enter Try.func134, Try.ntmps134
  go_wp2
  exact bodyPost_ret (results_none rfl _ _ _) rfl ⟨rfl, IsWriter.fail h, (Only.refl _ _).setCell _ _⟩

theorem writer_bytes_no (g : Nat) (l : List Nat) (q : Int) (a : Option Addr) (len cap : Nat) (w : World) (h : IsWriter w g l false) (hq : I64 q) (hlen : len ≤ maxLen) (hno : q < len ∨ 128 - (l.length : Int) < q) :
    Calls Try.prog 134 #[.pointer (some ⟨g, 0, none⟩), .int .i64 q, .slice a len cap] w fun e w' => e = .returned (.tuple #[]) ∧ IsWriter w' g l true ∧ Only g w w' := by
  obtain ⟨c0, c1, f0, f1⟩ := h.facts
  have hl := h.1
  obtain ⟨q1, q2⟩ := hq
  have hm : len ≤ 9223372036854775807 := by unfold maxLen at hlen; omega
  by_cases h1 : q < len
  · clear hno
    go_enter Try.func134, Try.ntmps134
    go_wp2
    exact bodyPost_ret (results_none rfl _ _ _) rfl ⟨rfl, IsWriter.fail h, (Only.refl _ _).setCell _ _⟩
  · have h2 : 128 - (l.length : Int) < q := by omega
    clear hno
    go_enter Try.func134, Try.ntmps134
    go_wp2
    exact bodyPost_ret (results_none rfl _ _ _) rfl ⟨rfl, IsWriter.fail h, (Only.refl _ _).setCell _ _⟩

/-- What a writer's block is behind a copy of bytes. -/
theorem writer_after {w w1 : World} {g : Nat} {l b : List Nat} {q len : Nat} (h : IsWriter w g l false) (hb : Bytes b) (hlen : b.length = len) (hlq : len ≤ q) (hq : l.length + q ≤ 128)
    (hw : w.setRow g (laid (wCells (pad l) l.length false) l.length (b.take len)) = w1) :
    Only g w w1 ∧ w1.cell? ⟨g, 128, none⟩ = some (.int .i64 l.length) ∧ w1.frozen? ⟨g, 128, none⟩ = false ∧
      IsWriter (w1.setCell ⟨g, 128, none⟩ (.int .i64 ((l.length : Int) + q))) g (l ++ b ++ List.replicate (q - len) 0) false := by
  subst hw
  have hl := h.1
  rw [List.take_of_length_le (by omega)]
  have hlp : (l ++ b).length = l.length + len := by simp; omega
  have hgw : (w.setRow g (laid (wCells (pad l) l.length false) l.length b)).heap[g]? = some (.cells (wCells (pad (l ++ b)) l.length false) 207 (0, 0)) := by
    rw [setRow_heap _ _ _ _ _ _ h.2.2, laid_wCells (pad_length hl) _ _ (by omega), pad_more (by omega)]
  refine ⟨(Only.refl _ _).setRow _, by rw [cell_of_row _ g _ _ _ _ hgw, wCells_at (pad_length (by omega))], frozen_of_row _ g _ _ _ hgw, ?_⟩
  have hll : (l ++ b ++ List.replicate (q - len) 0).length = l.length + q := by simp; omega
  refine ⟨by omega, (h.2.1.append hb).append (by intro x hx; have := List.eq_of_mem_replicate hx; omega), ?_⟩
  rw [heap_setCell_same _ g 128 _ _ _ hgw, show ((l.length : Int) + q) = ((l.length + q : Nat) : Int) by omega, wCells_set_at (pad_length (by omega)), hll, pad_noughts _ _ (by omega)]

set_option maxHeartbeats 800000 in
theorem writer_bytes_ok (g : Nat) (l b : List Nat) (q : Nat) (a : Option Addr) (len cap : Nat) (w : World) (h : IsWriter w g l false) (hr : Reads w a len b) (hlq : len ≤ q) (hq : l.length + q ≤ 128) :
    Calls Try.prog 134 #[.pointer (some ⟨g, 0, none⟩), .int .i64 q, .slice a len cap] w fun e w' => e = .returned (.tuple #[]) ∧ IsWriter w' g (l ++ b ++ List.replicate (q - len) 0) false ∧ Only g w w' := by
  obtain ⟨c0, c1, f0, f1⟩ := h.facts
  have hl := h.1
  have hcur := wCells_size (n := l.length) (f := false) (pad_length hl)
  have hg : w.drew.heap[g]? = some (.cells (wCells (pad l) l.length false) 207 (0, 0)) := h.2.2
  have Hcur := Lib.hid hcur
  clear hcur
  have A : ∀ w1, w.drew.setRow g (laid (wCells (pad l) l.length false) l.length (b.take len)) = w1 → _ := fun w1 hw1 => writer_after (w := w.drew) (w1 := w1) h hr.2.1 hr.1 hlq hq hw1
  have HA := Lib.hid A
  have Hg := Lib.hid hg
  clear A hg
  have hr' : Reads w.drew a len b := hr
  by_cases hfull : l.length = 128
  · have hlen0 : len = 0 := by omega
    have hq0 : q = 0 := by omega
    subst hlen0 hq0
    have c0' : w.cell? ⟨g, 128, none⟩ = some (.int .i64 128) := by rw [c0, hfull]; rfl
    have HF := Lib.hid hfull
    have ht1 : ¬ ((128 : Int) - 128 < 0) := by decide
    clear c0 hfull
    go_enter Try.func134, Try.ntmps134
    go_wp2
    go_still_tail 9, (by kernel_rfl)
    change wpList _ _ _ _ _ w.drew
    refine wpList_copy_bytes rfl (.tmp 35) (.tmp 36) rfl _ _ _ rfl _ _ _ rfl b hr' g l.length _ _ Hg.out 0 (by simp) (by omega) (by rw [Hcur.out]; omega) ?_
    obtain ⟨w1, hw1⟩ : ∃ w1, w.drew.setRow g (laid (wCells (pad l) l.length false) l.length (b.take 0)) = w1 := ⟨_, rfl⟩
    rw [hw1]
    obtain ⟨ho, d0, e0, hend⟩ := HA.out w1 hw1
    rw [HF.out] at d0
    rw [show ((l.length : Int) + (0 : Nat)) = 128 by rw [HF.out]; rfl] at hend
    clear hw1 HA c0' c1 f0 f1 h hr'
    go_wp2
    go_end0
    exact ⟨rfl, hend, (((Only.refl _ _).draws 1).trans ho).setCell _ _⟩
  · have hlt : l.length < 128 := by omega
    have h1 : (0 : Int) ≤ l.length ∧ (l.length : Int) ≤ 128 := by omega
    have h2 : ¬ 128 = l.length := by omega
    clear hfull
    go_enter Try.func134, Try.ntmps134
    go_wp2
    go_still_tail 9, (by kernel_rfl)
    change wpList _ _ _ _ _ w.drew
    refine wpList_copy_bytes rfl (.tmp 35) (.tmp 36) rfl _ _ _ rfl _ _ _ rfl b hr' g l.length _ _ Hg.out len (Nat.min_eq_left (by omega)).symm (fun _ => rfl) (by rw [Hcur.out]; omega) ?_
    obtain ⟨w1, hw1⟩ : ∃ w1, w.drew.setRow g (laid (wCells (pad l) l.length false) l.length (b.take len)) = w1 := ⟨_, rfl⟩
    rw [hw1]
    obtain ⟨ho, d0, e0, hend⟩ := HA.out w1 hw1
    clear hw1 HA c0 c1 f0 f1 h hr'
    go_wp2
    go_end0
    exact ⟨rfl, hend, (((Only.refl _ _).draws 1).trans ho).setCell _ _⟩
end Go.Proofs.Ytgakidimipipeaa
