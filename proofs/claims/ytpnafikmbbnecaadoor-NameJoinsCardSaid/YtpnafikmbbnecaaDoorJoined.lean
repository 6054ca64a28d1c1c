/- Paths joined, by the program's walk. -/
import Derived.Test.YtpnafikmbbnecaaDoorClean
import Derived.Deep.RegionHeld3
namespace Go.Proofs.YtpnafikmbbnecaaDoor
open Go.RowKit Go.Sort
set_option linter.unusedVariables false
set_option linter.unusedSimpArgs false
set_option maxRecDepth 100000

def RowPost (L : List Bs) (w : World) (e : Ending) (w' : World) : Prop := ∃ v, e = .returned v ∧ OwnsV w.heap.size w' 9 v (strsV L) ∧ Below w.heap.size w w'
/-- All of a slice, by an append. -/
theorem app_all {w : World} {ops : Array Oper} {rest : List Oper} {o : Oper} {a : Act} {Q : Exit → Act → World → Prop} (hgd : o.guard = none) (s x : Operand)
    (ho : o.op = .call { callee := .builtin .append, args := #[s, x], argTypes := #[23, 23] }) (W : World) (v : Value) (L M : List Bs) (hL : L.length ≤ 1000) (hM : M.length ≤ 1000) (hs : a.eval s = v) (hB : Below W.heap.size W w) (hown : OwnsV W.heap.size w 9 v (strsV L))
    (b : Option Addr) (c : Nat) (hr : ReadsV w b M.length (strsV M)) (hx : a.eval x = .slice b M.length c)
    (h : ∀ v' w', OwnsV W.heap.size w' 9 v' (strsV (L ++ M)) → Below W.heap.size W w' → wpList Tryd.prog ops Q rest (a.put o.dst v') w') : wpList Tryd.prog ops Q (o :: rest) a w := by
  refine wpList_append_vals hgd s x 23 ho W.heap.size 9 _ 16 Tryd.underlying23 info_str rfl v (strsV L) hs hown b M.length c hx (strsV M) hr (strsV_one M) (by rw [strsV_length]; omega) (by unfold maxLen; rw [strsV_length]; omega) hB.size ?_
  intro v' w' h1 h2
  refine h v' w' ?_ (OwnsV.grown hown hB hB.size h2)
  rw [strsV_append]; exact h1

set_option maxHeartbeats 3200000 in
/-- The parts of one list. -/
theorem joined_one (g : Nat) (b : Option Addr) (c : Nat) (M : List Bs) (w : World) (hg : g < w.heap.size) (hc : w.cell? ⟨g, 0, none⟩ = some (.slice b M.length c)) (hr : ReadsV w b M.length (strsV M)) (hM : M.length ≤ 900) :
    Calls Tryd.prog 17 #[.slice (some ⟨g, 0, none⟩) 1 1] w (RowPost M w) := by
  have fin : ∀ (v : Value) (w' : World), OwnsV w.heap.size w' 9 v (strsV M) → Below w.heap.size w w' → RowPost M w (.returned v) w' := fun v w' h1 h2 => ⟨v, rfl, h1, h2⟩
  have HF := Lib.hid fin
  have HR := Lib.hid hr
  have HM := Lib.hid hM
  clear fin hr hM
  go_enter Tryd.func17, Tryd.ntmps17
  go_wp2
  go_loopw [3, 8] (fun vl vi wr => ∃ v, v = vl ∧ ((vi = .int .i64 0 ∧ OwnsV w.heap.size wr 9 v (strsV []) ∧ wr = w) ∨ (vi = .int .i64 1 ∧ OwnsV w.heap.size wr 9 v (strsV M) ∧ Below w.heap.size w wr))) (fun _ vi _ => 1 - (intOf vi).toNat)
  case atStart => exact ⟨_, rfl, .inl ⟨rfl, OwnsV.nil _ _ _, rfl⟩⟩
  case round =>
    obtain ⟨v, rfl, ⟨rfl, hO, rfl⟩ | ⟨rfl, hO, hB⟩⟩ := hrel
    · have HO := Lib.hid hO
      clear hO
      go_wp2_with (at_builtin; refine app_all rfl _ _ rfl wr v [] M (by simp) (by have := HM.out; omega) rfl (Below.refl _ _) HO.out b c HR.out rfl ?_; intro v' w' h1' h2'; have O1 := Lib.hid h1'; have B1 := Lib.hid h2'; clear h1' h2')
      go_roundw
      case rel => exact ⟨_, rfl, .inr ⟨rfl, O1.out, B1.out⟩⟩
      case measure => simp [intOf]
    · have HO := Lib.hid hO
      have HB := Lib.hid hB
      clear hO hB
      go_wp2
      go_ret
      exact HF.out _ _ HO.out HB.out
set_option maxHeartbeats 3200000 in
/-- The parts of two lists. -/
theorem joined_two (g : Nat) (b b2 : Option Addr) (c c2 : Nat) (M M2 : List Bs) (w : World) (hg : g < w.heap.size) (hc : w.cell? ⟨g, 0, none⟩ = some (.slice b M.length c)) (hc2 : w.cell? ⟨g, 1, none⟩ = some (.slice b2 M2.length c2)) (hr : ReadsV w b M.length (strsV M)) (hr2 : ReadsV w b2 M2.length (strsV M2)) (hM : M.length ≤ 400) (hM2 : M2.length ≤ 400) :
    Calls Tryd.prog 17 #[.slice (some ⟨g, 0, none⟩) 2 2] w (RowPost (M ++ M2) w) := by
  have fin : ∀ (v : Value) (w' : World), OwnsV w.heap.size w' 9 v (strsV (M ++ M2)) → Below w.heap.size w w' → RowPost (M ++ M2) w (.returned v) w' := fun v w' h1 h2 => ⟨v, rfl, h1, h2⟩
  have HF := Lib.hid fin
  have HR := Lib.hid hr
  have HR2 := Lib.hid hr2
  have HM := Lib.hid hM
  have HM2 := Lib.hid hM2
  clear fin hr hr2 hM hM2
  go_enter Tryd.func17, Tryd.ntmps17
  go_wp2
  go_loopw [3, 8] (fun vl vi wr => ∃ v, v = vl ∧ ((vi = .int .i64 0 ∧ OwnsV w.heap.size wr 9 v (strsV []) ∧ wr = w) ∨ (vi = .int .i64 1 ∧ OwnsV w.heap.size wr 9 v (strsV M) ∧ Below w.heap.size w wr) ∨ (vi = .int .i64 2 ∧ OwnsV w.heap.size wr 9 v (strsV (M ++ M2)) ∧ Below w.heap.size w wr))) (fun _ vi _ => 2 - (intOf vi).toNat)
  case atStart => exact ⟨_, rfl, .inl ⟨rfl, OwnsV.nil _ _ _, rfl⟩⟩
  case round =>
    obtain ⟨v, rfl, ⟨rfl, hO, rfl⟩ | ⟨rfl, hO, hB⟩ | ⟨rfl, hO, hB⟩⟩ := hrel
    · have HO := Lib.hid hO
      clear hO
      go_wp2_with (at_builtin; refine app_all rfl _ _ rfl wr v [] M (by simp) (by have := HM.out; omega) rfl (Below.refl _ _) HO.out b c HR.out rfl ?_; intro v' w' h1' h2'; have O1 := Lib.hid h1'; have B1 := Lib.hid h2'; clear h1' h2')
      go_roundw
      case rel => exact ⟨_, rfl, .inr (.inl ⟨rfl, O1.out, B1.out⟩)⟩
      case measure => simp [intOf]
    · have HO := Lib.hid hO
      have HB := Lib.hid hB
      have d2 : wr.cell? ⟨g, 1, none⟩ = some (.slice b2 M2.length c2) := (hB.cell (p := ⟨g, 1, none⟩) hg).trans hc2
      have hgw := Nat.lt_of_lt_of_le hg hB.size
      have HR3 := Lib.hid (HR2.out.below hB)
      clear hO hB
      go_wp2_with (at_builtin; refine app_all rfl _ _ rfl w v M M2 (by have := HM.out; omega) (by have := HM2.out; omega) rfl HB.out HO.out b2 c2 HR3.out rfl ?_; intro v' w' h1' h2'; have O1 := Lib.hid h1'; have B1 := Lib.hid h2'; clear h1' h2')
      go_roundw
      case rel => exact ⟨_, rfl, .inr (.inr ⟨rfl, O1.out, B1.out⟩)⟩
      case measure => simp [intOf]
    · have HO := Lib.hid hO
      have HB := Lib.hid hB
      clear hO hB
      go_wp2
      go_ret
      exact HF.out _ _ HO.out HB.out
end Go.Proofs.YtpnafikmbbnecaaDoor
