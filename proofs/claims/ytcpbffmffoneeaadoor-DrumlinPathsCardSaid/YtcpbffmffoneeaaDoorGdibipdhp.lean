/- A block of entries that was written is read back. -/
import Derived.Test.YtcpbffmffoneeaaDoorGjhojppda
namespace Go.Proofs.YtcpbffmffoneeaaDoor
open Go.RowKit Go.Sort
set_option linter.unusedVariables false
set_option linter.unusedSimpArgs false
set_option maxRecDepth 100000

theorem nextRd {b : List Nat} {q : Nat} (n : Nat) (h : q ≤ b.length) : PS.next (.rd b) q n = .rd (b.drop q) := by
  show (if q ≤ b.length then PS.rd (b.drop q) else .rd []) = _
  rw [if_pos h]
theorem stS_drop : ∀ (l : List FldD) (b : List Nat), widths l ≤ b.length → stS (.rd b) l = .rd (b.drop (widths l))
  | [], b, _ => rfl
  | x :: l, b, h => by
    have hw : widths (x :: l) = x.width + widths l := rfl
    rw [hw] at h ⊢
    show stS (PS.next (.rd b) x.width (u64of x.z)) l = _
    have e : PS.next (.rd b) x.width (u64of x.z) = .rd (b.drop x.width) := nextRd _ (by omega)
    rw [e, stS_drop l _ (by rw [List.length_drop]; omega), List.drop_drop]
theorem stO_ones : ∀ (l : List Nat) (F : List FldD) (R : List Nat), l.length = F.length → (∀ f ∈ F, f.width = 1) → (stO (.rd (l ++ R)) F).map (·.z) = l.map (fun n : Nat => (n : Int))
  | [], [], _, _, _ => rfl
  | [], _ :: _, _, h, _ => by simp at h
  | _ :: _, [], _, h, _ => by simp at h
  | n :: l, f :: F, R, h, hf => by
    have h1 : f.width = 1 := hf f (by simp)
    have e1 : PS.next (.rd (n :: l ++ R)) f.width (u64of f.z) = .rd (l ++ R) := by
      rw [h1, nextRd _ (by simp)]
      rfl
    have e2 : (PS.rd (n :: l ++ R)).numI f.width f.z = (n : Int) := by
      rw [h1]
      show ((if 1 ≤ (n :: l ++ R).length then le ((n :: l ++ R).take 1) else 0 : Nat) : Int) = n
      rw [if_pos (by simp)]
      simp [le]
    show (PS.rd (n :: l ++ R)).numI f.width f.z :: (stO (PS.next (.rd (n :: l ++ R)) f.width (u64of f.z)) F).map (·.z) = _
    rw [e1, e2, stO_ones l F R (by simpa using h) fun g hg => hf g (by simp [hg])]
    rfl
theorem read_ent {x z : Ent} (h : mayD x = true) (hz : z.2.data.toList.length ≤ 29) (R : List Nat) :
    (PS.rd (pieceW x ++ R)).numI 2 z.1 = x.1 ∧ nameE (.rd (pieceW x ++ R)) z.1 z.2.data.toList = x.2 ∧ stE (.rd (pieceW x ++ R)) z.1 z.2.data.toList = .rd R := by
  obtain ⟨m1, m2, m3⟩ := mayD_facts h
  have hp := pieceW_length (x := x) (by omega)
  have ht : ∀ S : List Nat, pieceW x ++ S = low x.1.toNat 2 ++ (x.2.data.toList.length :: (bytesW x.2 ++ List.replicate (29 - x.2.data.toList.length) 0 ++ S)) := by
    intro S
    unfold pieceW headW
    simp only [List.append_assoc, List.cons_append, List.nil_append]
  have hn : PS.next (.rd (pieceW x ++ R)) 2 (u64of z.1) = .rd (x.2.data.toList.length :: (bytesW x.2 ++ List.replicate (29 - x.2.data.toList.length) 0 ++ R)) := by
    have : PS.next (.rd (pieceW x ++ R)) 2 (u64of z.1) = .rd ((pieceW x ++ R).drop 2) := nextRd _ (by rw [List.length_append, hp]; omega)
    rw [this, ht, List.drop_left' (low_length _ _)]
  have hs : sizeE (.rd (pieceW x ++ R)) z.1 z.2.data.toList = (x.2.data.toList.length : Int) := by
    unfold sizeE
    rw [hn]
    show ((if 1 ≤ (x.2.data.toList.length :: (bytesW x.2 ++ List.replicate (29 - x.2.data.toList.length) 0 ++ R)).length then le ((x.2.data.toList.length :: (bytesW x.2 ++ List.replicate (29 - x.2.data.toList.length) 0 ++ R)).take 1) else 0 : Nat) : Int) = _
    rw [if_pos (by simp)]
    simp [le]
  have hT : stT (.rd (pieceW x ++ R)) z.1 z.2.data.toList = .rd ((bytesW x.2 ++ List.replicate (29 - x.2.data.toList.length) 0) ++ R) := by
    unfold stT
    rw [hn, nextRd _ (by simp)]
    rfl
  refine ⟨?_, ?_, ?_⟩
  · show ((if 2 ≤ (pieceW x ++ R).length then le ((pieceW x ++ R).take 2) else 0 : Nat) : Int) = _
    rw [if_pos (by rw [List.length_append, hp]; omega), ht, List.take_left' (low_length _ _), le_low _ _ (by omega)]
    omega
  · unfold nameE outN
    rw [hT, stO_ones _ _ R (by rw [nameF_length hz, List.length_append, bytesW_length, List.length_replicate]; omega) (fun f hf => by
      unfold nameF at hf
      obtain ⟨b, _, rfl⟩ := List.mem_map.1 hf
      rfl), hs]
    have e : (min (x.2.data.toList.length : Int) 29).toNat = x.2.data.toList.length := by omega
    rw [e, List.map_append, List.take_left' (by rw [List.length_map, bytesW_length])]
    unfold bytesW
    rw [List.map_map]
    exact strOf_bytes x.2
  · rw [stE_is, stS_drop _ _ (by rw [entF_widths z hz, List.length_append, hp]; omega), entF_widths z hz, List.drop_left' hp]
theorem read_blk : ∀ (E Z : List Ent) (R : List Nat), E.length = Z.length → E.all mayD = true → (∀ z ∈ Z, z.2.data.toList.length ≤ 29) → outB (.rd (textW E ++ R)) Z = E
  | [], [], _, _, _, _ => rfl
  | [], _ :: _, _, h, _, _ => by simp at h
  | _ :: _, [], _, h, _, _ => by simp at h
  | x :: E, z :: Z, R, h, ha, hz => by
    rw [List.all_cons, Bool.and_eq_true] at ha
    have e : textW (x :: E) ++ R = pieceW x ++ (textW E ++ R) := by unfold textW; rw [List.flatMap_cons, List.append_assoc]
    obtain ⟨h1, h2, h3⟩ := read_ent ha.1 (hz z (by simp)) (textW E ++ R)
    rw [e]
    show ((PS.rd (pieceW x ++ (textW E ++ R))).numI 2 z.1, nameE (.rd (pieceW x ++ (textW E ++ R))) z.1 z.2.data.toList) :: outB (stE (.rd (pieceW x ++ (textW E ++ R))) z.1 z.2.data.toList) Z = _
    rw [h1, h2, h3, read_blk E Z R (by simpa using h) ha.2 fun y hy => hz y (by simp [hy])]
/-- What was written is read back. -/
theorem readD_writeD {E : List Ent} (hE : E.length = 4) (h : E.all mayD = true) : readD (writeD E).1 = (E, 0) := by
  have hr : rdB (textW E) = E := by
    have := read_blk E zeroE [] hE h fun z hz => (zeroE_ok z hz).2
    rw [List.append_nil] at this
    exact this
  rw [writeD_text hE h]
  unfold readD
  dsimp only
  rw [hr, writeD_text hE h]
  exact if_pos ⟨rfl, rfl⟩
end Go.Proofs.YtcpbffmffoneeaaDoor
