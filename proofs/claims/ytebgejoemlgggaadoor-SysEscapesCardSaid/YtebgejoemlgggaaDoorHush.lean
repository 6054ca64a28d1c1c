/- Regions that draw their order, whose operations read, and whose calls make memory: what the walks are told of them. -/
import Derived.Test.YtebgejoemlgggaaDoorNumA
import Derived.Lib.QuietBelow
import Derived.BigQuiet
import Derived.Below
namespace Go.Proofs.YtebgejoemlgggaaDoor
open Go.RowKit Go.Sort
set_option linter.unusedVariables false

/-- A callee that leaves the world alone, met in a world of the class. -/
theorem regrown_same {P : Program} {f : FuncId} {args : Array Value} {w : World} {d : Nat} {os : Array Obj} {v : Value}
    (h : Calls P f args (grow (redrawn w d) os) fun e w' => e = .returned v ∧ grow (redrawn w d) os = w') : Calls P f args (grow (redrawn w d) os) fun e w'' => e = .returned v ∧ ∃ p : Regrown, w'' = grow (redrawn w p.d) p.os :=
  h.mono fun _ _ ⟨he, hb⟩ => ⟨he, ⟨d, os⟩, hb.symm⟩
/-- A callee that draws. -/
theorem regrown_drew {P : Program} {f : FuncId} {args : Array Value} {w : World} {d : Nat} {os : Array Obj} {v : Value}
    (h : Calls P f args (grow (redrawn w d) os) fun e w' => e = .returned v ∧ ∃ n, (grow (redrawn w d) os).drewN n = w') : Calls P f args (grow (redrawn w d) os) fun e w'' => e = .returned v ∧ ∃ p : Regrown, w'' = grow (redrawn w p.d) p.os :=
  h.mono fun _ _ ⟨he, n, hb⟩ => ⟨he, regrown_of_below ((below_regrown w d os).trans (by rw [← hb]; exact ⟨rfl, rfl, rfl, Nat.le_refl _, fun _ _ => rfl⟩))⟩
/-- Behind the region: the world by a name of its own. -/
theorem regrown_name {w : World} {Q : World → Prop} (h : ∀ w', Below w.heap.size w w' → Q w') : ∀ w', (∃ p : Regrown, w' = grow (redrawn w p.d) p.os) → Q w' := by
  rintro _ ⟨p, rfl⟩
  exact h _ (below_regrown w p.d p.os)

/-- A box of three cells. -/
theorem box3 {w : World} {x y z : Value} {t : TypeId} : (w.alloc (.cells #[x, y, z] t)).cell? ⟨w.heap.size, 0, none⟩ = some x ∧ (w.alloc (.cells #[x, y, z] t)).cell? ⟨w.heap.size, 1, none⟩ = some y ∧ (w.alloc (.cells #[x, y, z] t)).cell? ⟨w.heap.size, 2, none⟩ = some z := by
  have h := heap_alloc_new w (.cells #[x, y, z] t)
  refine ⟨?_, ?_, ?_⟩ <;> (unfold World.cell?; rw [h]; rfl)
theorem below_box (w : World) (o : Obj) : Below w.heap.size w (w.alloc o) := (Below.refl _ _).alloc (Nat.le_refl _) o
theorem below_next {w W w' : World} (h : Below w.heap.size w W) (k : Below W.heap.size W w') : Below w.heap.size w w' := h.trans (k.mono h.size)
/-- What a walk keeps of a box of three cells, in a world by a name of its own. -/
def Box3 (w : World) (g : Nat) (x y z : Value) : Prop := g < w.heap.size ∧ w.cell? ⟨g, 0, none⟩ = some x ∧ w.cell? ⟨g, 1, none⟩ = some y ∧ w.cell? ⟨g, 2, none⟩ = some z
theorem box3_new (w : World) (x y z : Value) (t : TypeId) : Box3 (w.alloc (.cells #[x, y, z] t)) w.heap.size x y z := ⟨by simp, box3.1, box3.2.1, box3.2.2⟩
theorem Box3.below {w w' : World} {g : Nat} {x y z : Value} (h : Box3 w g x y z) (b : Below w.heap.size w w') : Box3 w' g x y z :=
  ⟨Nat.lt_of_lt_of_le h.1 b.size, (b.cell (p := ⟨g, 0, none⟩) h.1).trans h.2.1, (b.cell (p := ⟨g, 1, none⟩) h.1).trans h.2.2.1, (b.cell (p := ⟨g, 2, none⟩) h.1).trans h.2.2.2⟩
/-- A box of three cells that was made ahead of a call, behind it. -/
def Kept3 (w : World) (g : Nat) (x y z : Value) : Prop := w.cell? ⟨g, 0, none⟩ = some x ∧ w.cell? ⟨g, 1, none⟩ = some y ∧ w.cell? ⟨g, 2, none⟩ = some z ∧ w.frozen? ⟨g, 0, none⟩ = false ∧ w.frozen? ⟨g, 1, none⟩ = false ∧ w.frozen? ⟨g, 2, none⟩ = false ∧ g + 1 ≤ w.heap.size
theorem kept3_of {w : World} {g : Nat} {x y z : Value} {t : TypeId} (h : w.heap[g]? = some (.cells #[x, y, z] t (0, 0))) : Kept3 w g x y z := by
  refine ⟨?_, ?_, ?_, frozen_of_row _ _ _ _ _ h, frozen_of_row _ _ _ _ _ h, frozen_of_row _ _ _ _ _ h, (Array.getElem?_eq_some_iff.1 h).1⟩ <;> (unfold World.cell?; rw [h]; rfl)
theorem kept3 {U w' : World} {x y z : Value} {t : TypeId} (b : Below (U.alloc (.cells #[x, y, z] t)).heap.size (U.alloc (.cells #[x, y, z] t)) w') : Kept3 w' U.heap.size x y z :=
  kept3_of (t := t) (by rw [b.block _ (by simp)]; exact heap_alloc_new U _)
theorem kept3_drew {U w' : World} {x y z : Value} {t : TypeId} (b : Below (U.alloc (.cells #[x, y, z] t)).drew.heap.size (U.alloc (.cells #[x, y, z] t)).drew w') : Kept3 w' U.heap.size x y z :=
  kept3_of (t := t) (by rw [b.block _ (by show _ < (U.alloc _).heap.size; simp)]; exact heap_alloc_new U _)
theorem kept3_two {U w' : World} {x y z x' y' z' : Value} {t t' : TypeId} (b : Below ((U.alloc (.cells #[x, y, z] t)).alloc (.cells #[x', y', z'] t')).heap.size ((U.alloc (.cells #[x, y, z] t)).alloc (.cells #[x', y', z'] t')) w') : Kept3 w' U.heap.size x y z ∧ Kept3 w' (U.heap.size + 1) x' y' z' := by
  refine ⟨kept3_of (t := t) ?_, kept3_of (t := t') ?_⟩
  · rw [b.block _ (by simp; omega), Below.heap_alloc _ _ _ (by simp)]; exact heap_alloc_new U _
  · rw [b.block _ (by simp)]; have := heap_alloc_new (U.alloc (.cells #[x, y, z] t)) (.cells #[x', y', z'] t'); simpa using this
theorem kept3_two_drew {U w' : World} {x y z x' y' z' : Value} {t t' : TypeId} (b : Below ((U.alloc (.cells #[x, y, z] t)).alloc (.cells #[x', y', z'] t')).drew.heap.size ((U.alloc (.cells #[x, y, z] t)).alloc (.cells #[x', y', z'] t')).drew w') : Kept3 w' U.heap.size x y z ∧ Kept3 w' (U.heap.size + 1) x' y' z' :=
  kept3_two (t := t) (t' := t') ⟨b.os, b.tape, b.output, b.size, b.block⟩
theorem Kept3.below {w w' : World} {g : Nat} {x y z : Value} (h : Kept3 w g x y z) (b : Below w.heap.size w w') : Kept3 w' g x y z := by
  obtain ⟨h0, h1, h2, f0, f1, f2, hg⟩ := h
  exact ⟨(b.cell (p := ⟨g, 0, none⟩) hg).trans h0, (b.cell (p := ⟨g, 1, none⟩) hg).trans h1, (b.cell (p := ⟨g, 2, none⟩) hg).trans h2, (b.frozen (p := ⟨g, 0, none⟩) hg).trans f0, (b.frozen (p := ⟨g, 1, none⟩) hg).trans f1, (b.frozen (p := ⟨g, 2, none⟩) hg).trans f2, Nat.le_trans hg b.size⟩
theorem Kept3.more {w : World} {g : Nat} {x y z : Value} (h : Kept3 w g x y z) (o : Obj) : Kept3 (w.alloc o) g x y z := h.below (below_box w o)
/-- What the walk is told of old cells, behind a call that makes memory. -/
theorem bcell {W w1 : World} (hb : Below W.heap.size W w1) : (∀ b o, b < W.heap.size → w1.cell? ⟨b, o, none⟩ = W.cell? ⟨b, o, none⟩) ∧ (∀ b o, b < W.heap.size → w1.frozen? ⟨b, o, none⟩ = W.frozen? ⟨b, o, none⟩) ∧ W.heap.size ≤ w1.heap.size :=
  ⟨fun b o h => hb.cell (p := ⟨b, o, none⟩) h, fun b o h => hb.frozen (p := ⟨b, o, none⟩) h, hb.size⟩
/-- Blocks from B on alone are written: boxes below it stay. -/
theorem Box3.kept {w w' : World} {B g : Nat} {x y z : Value} (h : Box3 w g x y z) (b : Below B w w') (hg : g < B) : Box3 w' g x y z :=
  ⟨Nat.lt_of_lt_of_le h.1 b.size, (b.cell (p := ⟨g, 0, none⟩) hg).trans h.2.1, (b.cell (p := ⟨g, 1, none⟩) hg).trans h.2.2.1, (b.cell (p := ⟨g, 2, none⟩) hg).trans h.2.2.2⟩
theorem ret_int {k : IntKind} {a b : Int} (h : a = b) : Ending.returned (.int k a) = .returned (.int k b) := by rw [h]
theorem ret_bool {a b : Bool} (h : a = b) : Ending.returned (.bool a) = .returned (.bool b) := by rw [h]
end Go.Proofs.YtebgejoemlgggaaDoor
