/- Alike, told by what the document's disks are: plain facts. -/
import Derived.Test.YthainmbapikjiaaGamelbbgd
import Derived.Test.YthainmbapikjiaaGinilbhgj
namespace Go.Proofs.Ythainmbapikjiaa
open Go.RowKit Go.Sort
set_option linter.unusedVariables false
set_option linter.unusedSimpArgs false
set_option maxRecDepth 100000

/-- Nothing is left where nothing is armed. -/
def Still (D : DiskD) : Prop := D.armed = false → D.left = 0
theorem still_new (n : Nat) : Still (newD n) := fun _ => rfl
theorem armI_eq {D E : DiskD} (hD : Still D) (hE : Still E) : (D.armed = E.armed ∧ (D.left : Int) = (E.left : Int)) ↔ armI D = armI E := by
  unfold armI
  constructor
  · rintro ⟨h1, h2⟩
    rw [h1, h2]
  · intro h
    cases ha : D.armed <;> cases hb : E.armed <;> simp only [ha, hb, Bool.false_eq_true, if_false, if_true] at h
    · have := hD ha; have := hE hb; exact ⟨rfl, by omega⟩
    · omega
    · omega
    · exact ⟨rfl, h⟩
/-- The program's answer is the document's. -/
theorem alikeB_is {D E : DiskD} (hD : Still D) (hE : Still E) : alikeB D E = decide (D.dead = E.dead ∧ armI D = armI E ∧ D.cache = E.cache ∧ D.secs = E.secs) := by
  unfold alikeB
  rw [← Bool.decide_and, ← Bool.decide_and]
  apply decide_eq_decide.2
  constructor
  · rintro ⟨⟨h1, h2, h3⟩, h4, h5⟩
    exact ⟨h1, (armI_eq hD hE).1 ⟨h2, h3⟩, h4, h5⟩
  · rintro ⟨h1, h2, h3, h4⟩
    obtain ⟨k1, k2⟩ := (armI_eq hD hE).2 h2
    exact ⟨⟨h1, k1, k2⟩, h3, h4⟩
theorem alikeB_self (D : DiskD) (room : Nat) (junk : List Value) : alikeB D { D with room := room, junk := junk } = true ∧ alikeB { D with room := room, junk := junk } D = true := by
  unfold alikeB
  constructor <;> simp
end Go.Proofs.Ythainmbapikjiaa
