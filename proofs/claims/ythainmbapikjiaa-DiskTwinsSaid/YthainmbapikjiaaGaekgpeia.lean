/- The document's sectors and writes, loaded at a step of a quiet region; '==' of two of its sectors. -/
import Derived.Test.YthainmbapikjiaaGkfjaaifa
namespace Go.Proofs.Ythainmbapikjiaa
open Go.ChangeShapes Go.WideShapes Go.ChangeAt Go.RowKit Go.Sort
set_option linter.unusedVariables false
set_option linter.unusedSimpArgs false
set_option maxRecDepth 100000

theorem quiet_load_wrR {P : World → Prop} {o : Oper} {a : Act} {K : Act → Prop} (x : Operand) (ho : o.op = .load 41 x) (g off : Nat) (p : Nat × List Nat) (hx : a.eval x = .pointer (some ⟨g, off, none⟩)) (hl : p.2.length = 128)
    (hc : ∀ W, P W → W.rangeAt g off (wrV p)) (h : K (a.put o.dst (.agg (wrV p).toArray))) : o.quiet Try.prog a P K := by
  obtain ⟨d, hu, hd⟩ := row_wrR
  exact ⟨.agg (wrV p).toArray, fun W hW => by
    unfold Oper.quietAt execOp
    simp only [ho, hx]
    rw [Sem.run_bind, run_loadAt_mid W g off 41 (wrV p) d (hc W hW) hu hd (by rw [size_wrR, wrV_length hl])]
    exact ⟨rfl, rfl⟩, h⟩
theorem quiet_load_full {P : World → Prop} {o : Oper} {a : Act} {K : Act → Prop} (x : Operand) (ho : o.op = .load 39 x) (g off : Nat) (l : List Nat) (hx : a.eval x = .pointer (some ⟨g, off, none⟩)) (hl : l.length = 128)
    (hc : ∀ W, P W → W.rangeAt g off (l.map byteV)) (h : K (a.put o.dst (.agg (cells l)))) : o.quiet Try.prog a P K := by
  obtain ⟨d, hu, hd⟩ := row_arr128
  exact ⟨.agg (cells l), fun W hW => by
    unfold Oper.quietAt execOp
    simp only [ho, hx]
    rw [Sem.run_bind, run_loadAt_mid W g off 39 (l.map byteV) d (hc W hW) hu hd (by rw [size_arr128, List.length_map, hl])]
    exact ⟨rfl, rfl⟩, h⟩
theorem run_eql_full (a b : List Nat) (ha : a.length = 128) (hb : b.length = 128) (w : World) : (binOp .eql 39 (.agg (cells a)) (.agg (cells b))).run Try.prog w = .ok (.bool (decide (a = b))) w := by
  simp only [binOp]
  simp [Op.equal, Op.maxDepth, run_equalIn_full 9998 a b ha hb w]
theorem secs_thereR {w : World} {a : Option Addr} {l : List (List Nat)} (hr : ReadsR w a 128 (secR l)) {k : Nat} {s : List Nat} (hs : l[k]? = some s) :
    ∃ b o, a = some ⟨b, o, none⟩ ∧ ∀ W', (∃ p : Regrown, W' = grow (redrawn w p.d) p.os) → W'.rangeAt b (o + k * 128) (s.map byteV) := by
  obtain ⟨b1, o1, e, hb, hc⟩ := hr.row (j := k) (r := s.map byteV) (by unfold secR; rw [List.getElem?_map, hs]; rfl)
  refine ⟨b1, o1, e, ?_⟩
  rintro _ ⟨p, rfl⟩ j v hv
  have := hc j v hv
  rw [← Nat.add_assoc] at this
  exact cell_regrown this p.d p.os
theorem take_step {α : Type} {l m : List α} {k : Nat} {s t : α} (hs : l[k]? = some s) (ht : m[k]? = some t) (h : l.take k = m.take k) : l.take (k + 1) = m.take (k + 1) ↔ s = t := by
  rw [List.take_add_one, List.take_add_one, hs, ht, h]
  constructor
  · intro e; simpa using List.append_cancel_left e
  · rintro rfl; rfl
theorem take_all {α : Type} {l m : List α} {k : Nat} (hl : l.length ≤ k) (hm : m.length ≤ k) : l.take k = m.take k ↔ l = m := by rw [List.take_of_length_le hl, List.take_of_length_le hm]
/-- What the document's disks tell of being alike. -/
def alikeR (D E : DiskD) : Bool := (decide (D.dead = E.dead ∧ armI D = armI E ∧ D.cache.length = E.cache.length) && decide (D.cache = E.cache)) && decide (D.secs = E.secs)
theorem alikeR_is {D E : DiskD} (hD : Still D) (hE : Still E) : alikeB D E = alikeR D E := by
  rw [alikeB_is hD hE]
  unfold alikeR
  rw [← Bool.decide_and, ← Bool.decide_and]
  apply decide_eq_decide.2
  constructor
  · rintro ⟨h1, h2, h3, h4⟩
    exact ⟨⟨⟨h1, h2, by rw [h3]⟩, h3⟩, h4⟩
  · rintro ⟨⟨⟨h1, h2, _⟩, h3⟩, h4⟩
    exact ⟨h1, h2, h3, h4⟩
end Go.Proofs.Ythainmbapikjiaa
