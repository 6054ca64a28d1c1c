/- The writer of a sector, by its walks. -/
import Derived.Test.YtebkkbmplndcpaaGafmboihi
import Derived.StillTailTactics
import Derived.Laws.CopyOwn
namespace Go.Proofs.Ytebkkbmplndcpaa
open Go.RowKit
set_option linter.unusedVariables false
set_option maxRecDepth 100000

/-- Nothing but block g has changed. -/
structure Only (g : Nat) (w w' : World) : Prop where
  os : w'.os = w.os
  tape : w'.tape = w.tape
  output : w'.output = w.output
  size : w'.heap.size = w.heap.size
  block : ∀ k, k ≠ g → w'.heap[k]? = w.heap[k]?
theorem Only.refl (g : Nat) (w : World) : Only g w w := ⟨rfl, rfl, rfl, rfl, fun _ _ => rfl⟩
theorem Only.trans {g : Nat} {a b c : World} (h : Only g a b) (k : Only g b c) : Only g a c :=
  ⟨k.os.trans h.os, k.tape.trans h.tape, k.output.trans h.output, k.size.trans h.size, fun i hi => (k.block i hi).trans (h.block i hi)⟩
theorem Only.draws {g : Nat} {a b : World} (h : Only g a b) (n : Nat) : Only g a (b.drewN n) := h.trans ⟨rfl, rfl, rfl, rfl, fun _ _ => rfl⟩
theorem Only.setRow {g : Nat} {a b : World} (h : Only g a b) (cs : Array Value) : Only g a (b.setRow g cs) :=
  h.trans ⟨rfl, rfl, rfl, by simp, fun k hk => setRow_other b g k cs hk⟩
theorem Only.setCell {g : Nat} {a b : World} (h : Only g a b) (o : Nat) (v : Value) : Only g a (b.setCell ⟨g, o, none⟩ v) :=
  h.trans ⟨rfl, rfl, rfl, by simp [World.setCell], fun k hk => Below.heap_setCell _ _ _ _ hk⟩
theorem Only.below {g B : Nat} {a b : World} (h : Only g a b) (hB : B ≤ g) : Below B a b :=
  ⟨h.os, h.tape, h.output, by rw [h.size]; exact Nat.le_refl _, fun k hk => h.block k (by omega)⟩

/-- A sector's bytes: what is written, and noughts. -/
def pad (l : List Nat) : List Nat := l ++ List.replicate (128 - l.length) 0
theorem pad_length {l : List Nat} (h : l.length ≤ 128) : (pad l).length = 128 := by simp [pad]; omega
theorem pad_bytes {l : List Nat} (h : Bytes l) : Bytes (pad l) := h.append (by intro x hx; have := List.eq_of_mem_replicate hx; omega)

/-- The block of a writer: its sector's bytes, how many are written, and whether it has failed. -/
def wCells (s : List Nat) (n : Nat) (failed : Bool) : Array Value := (s.map byteV ++ [Value.int .i64 n, Value.bool failed]).toArray
theorem wCells_size {s : List Nat} {n : Nat} {f : Bool} (h : s.length = 128) : (wCells s n f).size = 130 := by simp [wCells, h]
theorem wCells_at {s : List Nat} {n : Nat} {f : Bool} (h : s.length = 128) : (wCells s n f)[128]? = some (.int .i64 n) := by simp [wCells, h]
theorem wCells_failed {s : List Nat} {n : Nat} {f : Bool} (h : s.length = 128) : (wCells s n f)[129]? = some (.bool f) := by
  simp only [wCells, List.getElem?_toArray]
  rw [List.getElem?_append_right (by simp; omega)]
  simp [h]
theorem wCells_set_failed {s : List Nat} {n : Nat} {f : Bool} (h : s.length = 128) (b : Bool) : (wCells s n f).setIfInBounds 129 (.bool b) = wCells s n b := by
  apply Array.ext'
  rw [Array.toList_setIfInBounds]
  simp only [wCells]
  rw [List.set_append_right _ _ (by simp; omega)]
  simp [h]
theorem wCells_set_at {s : List Nat} {n : Nat} {f : Bool} (h : s.length = 128) (m : Nat) : (wCells s n f).setIfInBounds 128 (.int .i64 m) = wCells s m f := by
  apply Array.ext'
  rw [Array.toList_setIfInBounds]
  simp only [wCells]
  rw [List.set_append_right _ _ (by simp; omega)]
  simp [h]
theorem laid_wCells {s : List Nat} {n : Nat} {f : Bool} (h : s.length = 128) (p : Nat) (l : List Nat) (hp : p + l.length ≤ 128) :
    laid (wCells s n f) p l = wCells (s.take p ++ l ++ s.drop (p + l.length)) n f := by
  apply Array.ext'
  simp only [laid, wCells, List.map_append, List.map_take, List.map_drop]
  rw [List.take_append_of_le_length (by simp; omega), List.drop_append_of_le_length (by simp; omega)]
  simp [List.append_assoc]
theorem pad_more {l m : List Nat} (h : l.length + m.length ≤ 128) : (pad l).take l.length ++ m ++ (pad l).drop (l.length + m.length) = pad (l ++ m) := by
  unfold pad
  rw [List.take_left' rfl, List.drop_append, List.drop_of_length_le (by omega), List.nil_append]
  rw [List.append_assoc, List.append_assoc]
  congr 2
  rw [List.drop_replicate, List.length_append]
  congr 1
  omega

/-- 'copy(into, bytes)', the target lying in a block that is known whole. -/
theorem wpList_copy_bytes {w : World} {ops : Array Oper} {rest : List Oper} {o : Oper} {a : Act} {Q : Exit → Act → World → Prop} (hgd : o.guard = none) (d s : Operand)
    (ho : o.op = .call { callee := .builtin .copy, args := #[d, s], argTypes := #[63, 63] })
    (dp : Option Addr) (dLen dCap : Nat) (hd : a.eval d = .slice dp dLen dCap) (sa : Option Addr) (m c : Nat) (hs : a.eval s = .slice sa m c) (l : List Nat) (hr : Reads w sa m l)
    (g off : Nat) (cur : Array Value) (e0 : TypeId) (hg : w.heap[g]? = some (.cells cur e0 (0, 0))) (k : Nat) (hk : k = Nat.min m dLen) (hp : 0 < k → dp = some ⟨g, off, none⟩) (hfit : off + k ≤ cur.size)
    (h : wpList Try.prog ops Q rest (a.put o.dst (goInt k)) (w.setRow g (laid cur off (l.take k)))) : wpList Try.prog ops Q (o :: rest) a w := by
  have hsz : (Try.prog.info? 5).map (·.size) = some 1 := by kernel_rfl
  by_cases h0 : k = 0
  · subst h0
    refine wpList_copy_nothing hgd d s 63 63 ho 5 Try.underlying63 hsz dp sa dLen dCap m c hd hs hk.symm ?_
    rw [List.take_zero, laid_nil, setRow_self _ _ _ _ _ hg] at h
    exact h
  · obtain rfl := hp (by omega)
    obtain ⟨hlen, hb, hr⟩ := hr
    have hkm : k ≤ m := by rw [hk]; exact Nat.min_le_left _ _
    rcases hr with rfl | ⟨b, off', rfl, _, hc⟩
    · simp at hlen; omega
    · have hcs : ((l.take k).map byteV).length = k := by simp; omega
      refine wpList_copy_own hgd d s 63 63 ho 5 Try.underlying63 hsz g off dLen dCap ⟨b, off', none⟩ m c hd hs cur e0 hg ((l.take k).map byteV) (by rw [hcs]; exact hk) ?_ (by rw [hcs]; exact hfit) (byteV_oneCell _) ?_
      · intro j u hu
        simp only [List.getElem?_map, Option.map_eq_some_iff] at hu
        obtain ⟨y, hy, rfl⟩ := hu
        rw [List.getElem?_take] at hy
        split at hy
        · rename_i hjk
          have hadd : (⟨b, off', none⟩ : Addr).add j = ⟨b, off' + j, none⟩ := by unfold Addr.add; split <;> simp_all
          rw [hadd, hc j (by omega)]
          simp [List.getD, hy, byteV]
        · cases hy
      · rw [hcs]
        have e : (l.take k).length = k := by simp; omega
        unfold laid at h
        rw [List.append_assoc, e] at h
        exact h

theorem pad_noughts (l : List Nat) (k : Nat) (h : l.length + k ≤ 128) : pad (l ++ List.replicate k 0) = pad l := by
  unfold pad
  rw [List.append_assoc, List.replicate_append_replicate]
  congr 2
  simp
  omega

end Go.Proofs.Ytebkkbmplndcpaa
