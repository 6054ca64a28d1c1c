/- The law's fixed fact about sys. -/
import Derived.Test.YtebgejoemlgggaaDoorCheck7
namespace Go.Proofs.YtebgejoemlgggaaDoor
open Go.RowKit Go.Sort
set_option linter.unusedVariables false
set_option linter.unusedSimpArgs false
set_option maxRecDepth 100000

def openS : Bx := [111, 112, 101, 110, 32, 97, 37, 50, 48, 98, 32, 57]
theorem shapeN_7 : shapeN 7 = ([111, 112, 101, 110], [83, 65]) := by decide
theorem itoa_9 : Lib.itoa 9 = [57] := by
  have h := Lib.itoa_nonneg 9
  rw [Lib.decDigits_one (by decide)] at h
  exact h
theorem open_text : textL 7 9 0 [97, 32, 98] [] [] = openS := by
  unfold textL
  rw [shapeN_7]
  show Lib.join [[111, 112, 101, 110], escL [97, 32, 98], Lib.itoa 9] [32] = openS
  rw [itoa_9]
  decide
theorem open_said : Said openS 7 9 0 [97, 32, 98] [] [] := ⟨by decide, by decide, by unfold I64; omega, by unfold I64; omega, open_text⟩
theorem open_only {op a b : Int} {S T d : Bx} (h : Said openS op a b S T d) : S = [97, 32, 98] := by
  have h1 := said_words open_said _ rfl
  have h2 := said_words h _ rfl
  rw [h1] at h2
  have hop : op = 7 := by
    have e := (List.cons.inj h2).1
    have q1 := h.one
    have q2 := h.top
    rw [shapeN_at (by omega) (by omega), shapeN_at (by omega) (by omega)] at e
    have := names_apart (7 : Int).toNat (by decide) op.toNat (by omega) e
    have e7 : (7 : Int).toNat = 7 := rfl
    omega
  subst hop
  rw [shapeN_7] at h2
  have h3 : [escL [97, 32, 98], Lib.itoa 9] = [escL S, Lib.itoa a] := (List.cons.inj h2).2
  exact (escL_inj (List.cons.inj h3).1).symm
set_option maxHeartbeats 1600000 in
theorem awake23_true (w : World) (hv : VarsAt w) : Calls Tryd.prog 11 #[] w fun e w' => e = .returned (.bool true) ∧ Below w.heap.size w w' := by
  have HV := Lib.hid hv
  clear hv
  have m0 := heap_alloc_new w (.cells #[.int .i64 7, .int .i64 9, .int .i64 0, .string ⟨#[97, 32, 98]⟩, .string ⟨#[]⟩, .slice none 0 0] 27)
  have k0 := below_box w (.cells #[.int .i64 7, .int .i64 9, .int .i64 0, .string ⟨#[97, 32, 98]⟩, .string ⟨#[]⟩, .slice none 0 0] 27)
  obtain ⟨w1, hw1⟩ : ∃ x, w.alloc (.cells #[.int .i64 7, .int .i64 9, .int .i64 0, .string ⟨#[97, 32, 98]⟩, .string ⟨#[]⟩, .slice none 0 0] 27) = x := ⟨_, rfl⟩
  rw [hw1] at m0 k0
  have HW1 := Lib.hid hw1
  have M0 := Lib.hid m0
  have K0 := Lib.hid k0
  clear m0 k0 hw1
  go_enter Tryd.func11, Tryd.ntmps11
  go_wp2_with fail
  rw [HW1.out]
  refine (parse_is ⟨#[111, 112, 101, 110, 32, 97, 37, 50, 48, 98, 32, 57]⟩ w1 (HV.out.below K0.out) (by decide)).mono ?_
  rintro e w2 ⟨b2, ⟨op, a, b, S, T, da, dn, dc, d, rfl, hsd, _⟩ | ⟨_, hno⟩⟩
  · have hS : S.data.toList = [97, 32, 98] := open_only hsd
    have hS2 : S = ⟨#[97, 32, 98]⟩ := by rw [← (show (⟨S.data.toList.toArray⟩ : ByteArray) = S from rfl), hS]
    subst hS2
    unfold callC
    have k2 := below_box w2 (.cells #[.int .i64 op, .int .i64 a, .int .i64 b, .string ⟨#[97, 32, 98]⟩, .string T, .slice da dn dc] 27)
    have n2 := heap_alloc_new w2 (.cells #[.int .i64 op, .int .i64 a, .int .i64 b, .string ⟨#[97, 32, 98]⟩, .string T, .slice da dn dc] 27)
    obtain ⟨w3, hw3⟩ : ∃ x, w2.alloc (.cells #[.int .i64 op, .int .i64 a, .int .i64 b, .string ⟨#[97, 32, 98]⟩, .string T, .slice da dn dc] 27) = x := ⟨_, rfl⟩
    rw [hw3] at k2 n2
    have b3 := below_next b2 k2
    have K3 := Lib.hid (below_next K0.out b3)
    have HBX : Hid (∀ W, Below w3.heap.size w3 W → W.heap[w.heap.size]? = some (.cells #[.int .i64 7, .int .i64 9, .int .i64 0, .string ⟨#[97, 32, 98]⟩, .string ⟨#[]⟩, .slice none 0 0] 27 (0, 0)) ∧ W.heap[w2.heap.size]? = some (.cells #[.int .i64 op, .int .i64 a, .int .i64 b, .string ⟨#[97, 32, 98]⟩, .string T, .slice da dn dc] 27 (0, 0))) := Lib.hid (fun W hW => ⟨((below_next b3 hW).block w.heap.size (Array.getElem?_eq_some_iff.1 M0.out).1).trans M0.out, (hW.block w2.heap.size (Array.getElem?_eq_some_iff.1 n2).1).trans n2⟩)
    have HW3 := Lib.hid hw3
    have hx := (HBX.out w3 (Below.refl _ _)).1
    have hy := (HBX.out w3 (Below.refl _ _)).2
    have x0 := cell_atB hx 0
    have x1 := cell_atB hx 1
    have x2 := cell_atB hx 2
    have x3 := cell_atB hx 3
    have x4 := cell_atB hx 4
    have x5 := cell_atB hx 5
    have y0 := cell_atB hy 0
    have y1 := cell_atB hy 1
    have y2 := cell_atB hy 2
    have y3 := cell_atB hy 3
    have y4 := cell_atB hy 4
    have y5 := cell_atB hy 5
    rw [← hw3] at x0 x1 x2 x3 x4 x5 y0 y1 y2 y3 y4 y5
    have HOT : Hid (strB (textL 7 9 0 (⟨#[97, 32, 98]⟩ : ByteArray).data.toList (⟨#[]⟩ : ByteArray).data.toList []) = .string ⟨#[111, 112, 101, 110, 32, 97, 37, 50, 48, 98, 32, 57]⟩) := Lib.hid (by
      have e : textL 7 9 0 (⟨#[97, 32, 98]⟩ : ByteArray).data.toList (⟨#[]⟩ : ByteArray).data.toList [] = openS := open_text
      rw [e]; rfl)
    have HTX := Lib.hid (text_is 7 9 0 ⟨#[97, 32, 98]⟩ ⟨#[]⟩ none 0 0 [] w3 (HV.out.below K3.out) (by unfold I64; omega) (by unfold I64; omega) (by unfold I64; omega) (by decide) (by decide) ⟨rfl, by intro x hx; simp [nb] at hx, .inl rfl⟩ (Nat.le_refl _) (by simp))
    clear hsd hS k2 n2 hw3 b2 b3 hx hy
    go_wp2_with fail
    rw [HW3.out]
    refine HTX.out.mono ?_
    rintro e w4 ⟨rfl, b4⟩
    rw [HOT.out]
    have hx := (HBX.out w4 b4).1
    have hy := (HBX.out w4 b4).2
    clear x0 x1 x2 x3 x4 x5 y0 y1 y2 y3 y4 y5
    have x0 := cell_atB hx 0
    have x1 := cell_atB hx 1
    have x2 := cell_atB hx 2
    have x3 := cell_atB hx 3
    have x4 := cell_atB hx 4
    have x5 := cell_atB hx 5
    have y0 := cell_atB hy 0
    have y1 := cell_atB hy 1
    have y2 := cell_atB hy 2
    have y3 := cell_atB hy 3
    have y4 := cell_atB hy 4
    have y5 := cell_atB hy 5
    have K4 := Lib.hid (below_next K3.out b4)
    have HCK := Lib.hid (check7_is 9 0 ⟨#[97, 32, 98]⟩ ⟨#[]⟩ none 0 0 w4 (HV.out.below K4.out) (by decide) (by decide))
    clear b4 hx hy HTX HOT
    go_wp2_with fail
    refine HCK.out.mono ?_
    rintro e w5 ⟨rfl, b5⟩
    have K5 := Lib.hid (below_next K4.out b5)
    have HNM := Lib.hid (name_is 30 (by unfold I64; omega) w5 (HV.out.below K5.out))
    have HN0 : Hid (strB (shapeN 30).1 = .string ⟨#[]⟩) := Lib.hid (by
      have e : (shapeN 30).1 = [] := by decide
      rw [e]; rfl)
    clear b5 HCK x0 x1 x2 x3 x4 x5 y0 y1 y2 y3 y4 y5
    go_wp2_with fail
    refine HNM.out.mono ?_
    rintro e w6 ⟨rfl, b6⟩
    rw [HN0.out]
    go_wp2
    go_ret
    exact ⟨rfl, below_next K5.out b6⟩
  · exact absurd open_said (hno 7 9 0 [97, 32, 98] [] [])
end Go.Proofs.YtebgejoemlgggaaDoor
