/- Regions that draw their order, whose operations read, and whose calls make memory: what the walks are told of them. -/
import Derived.Test.YtdgmkobjdhmkdaaNumA
import Derived.Lib.QuietBelow
import Derived.BigQuiet
import Derived.Below
namespace Go.Proofs.Ytdgmkobjdhmkdaa
open Go.RowKit Go.Sort
set_option linter.unusedVariables false

/-- A callee that leaves the world alone, met in a world of the class. -/
theorem regrown_same {P : Program} {f : FuncId} {args : Array Value} {w : World} {d : Nat} {os : Array Obj} {v : Value}
    (h : Calls P f args (grow (redrawn w d) os) fun e w' => e = .returned v ∧ grow (redrawn w d) os = w') : Calls P f args (grow (redrawn w d) os) fun e w'' => e = .returned v ∧ ∃ p : Regrown, w'' = grow (redrawn w p.d) p.os :=
  h.mono fun _ _ ⟨he, hb⟩ => ⟨he, ⟨d, os⟩, hb.symm⟩
/-- A callee that draws. -/
theorem regrown_drew {P : Program} {f : FuncId} {args : Array Value} {w : World} {d : Nat} {os : Array Obj} {v : Value}
    (h : Calls P f args (grow (redrawn w d) os) fun e w' => e = .returned v ∧ ∃ n, (grow (redrawn w d) os).drewN n = w') : Calls P f args (grow (redrawn w d) os) fun e w'' => e = .returned v ∧ ∃ p : Regrown, w'' = grow (redrawn w p.d) p.os :=
  h.mono fun _ _ ⟨he, n, hb⟩ => ⟨he, regrown_of_below ((below_regrown w d os).trans (by rw [← hb]; exact ⟨rfl, rfl, rfl, Nat.le_refl _, fun _ _ => rfl⟩))⟩
/-- Behind the region: the world by a name of its own. -/
theorem regrown_name {w : World} {Q : World → Prop} (h : ∀ w', Below w.heap.size w w' → Q w') : ∀ w', (∃ p : Regrown, w' = grow (redrawn w p.d) p.os) → Q w' := by
  rintro _ ⟨p, rfl⟩
  exact h _ (below_regrown w p.d p.os)

/-- A box of three cells. -/
theorem box3 {w : World} {x y z : Value} {t : TypeId} : (w.alloc (.cells #[x, y, z] t)).cell? ⟨w.heap.size, 0, none⟩ = some x ∧ (w.alloc (.cells #[x, y, z] t)).cell? ⟨w.heap.size, 1, none⟩ = some y ∧ (w.alloc (.cells #[x, y, z] t)).cell? ⟨w.heap.size, 2, none⟩ = some z := by
  have h := heap_alloc_new w (.cells #[x, y, z] t)
  refine ⟨?_, ?_, ?_⟩ <;> (unfold World.cell?; rw [h]; rfl)
theorem below_box (w : World) (o : Obj) : Below w.heap.size w (w.alloc o) := (Below.refl _ _).alloc (Nat.le_refl _) o
theorem below_next {w W w' : World} (h : Below w.heap.size w W) (k : Below W.heap.size W w') : Below w.heap.size w w' := h.trans (k.mono h.size)
/-- What a walk keeps of a box of three cells, in a world by a name of its own. -/
def Box3 (w : World) (g : Nat) (x y z : Value) : Prop := g < w.heap.size ∧ w.cell? ⟨g, 0, none⟩ = some x ∧ w.cell? ⟨g, 1, none⟩ = some y ∧ w.cell? ⟨g, 2, none⟩ = some z
theorem box3_new (w : World) (x y z : Value) (t : TypeId) : Box3 (w.alloc (.cells #[x, y, z] t)) w.heap.size x y z := ⟨by simp, box3.1, box3.2.1, box3.2.2⟩
theorem Box3.below {w w' : World} {g : Nat} {x y z : Value} (h : Box3 w g x y z) (b : Below w.heap.size w w') : Box3 w' g x y z :=
  ⟨Nat.lt_of_lt_of_le h.1 b.size, (b.cell (p := ⟨g, 0, none⟩) h.1).trans h.2.1, (b.cell (p := ⟨g, 1, none⟩) h.1).trans h.2.2.1, (b.cell (p := ⟨g, 2, none⟩) h.1).trans h.2.2.2⟩
end Go.Proofs.Ytdgmkobjdhmkdaa
