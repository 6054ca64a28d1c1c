/- What blocks in a row cost; what pieces in a row are. No run of the model. -/
import Derived.Test.YtcpbffmffoneeaaDoorCostMath
import Derived.Test.YtcpbffmffoneeaaDoorCutMath
namespace Go.Proofs.YtcpbffmffoneeaaDoor
set_option linter.unusedVariables false

/-- Blocks in a row. -/
def consL (i : Int) (m : Nat) : List Int := (List.range m).map fun (k : Nat) => i + (k : Int)
theorem consL_succ (i : Int) (m : Nat) : consL i (m + 1) = consL i m ++ [i + (m : Int)] := by unfold consL; rw [List.range_succ, List.map_append]; rfl
theorem consL_length (i : Int) (m : Nat) : (consL i m).length = m := by unfold consL; simp
theorem consL_mem {i : Int} {m : Nat} {y : Int} : y ∈ consL i m ↔ i ≤ y ∧ y < i + m := by
  unfold consL
  rw [List.mem_map]
  constructor
  · rintro ⟨k, hk, rfl⟩
    rw [List.mem_range] at hk
    omega
  · rintro ⟨h1, h2⟩
    exact ⟨(y - i).toNat, List.mem_range.2 (by omega), by omega⟩
theorem consL_get {i : Int} {m k : Nat} (h : k < m) : (consL i m)[k]? = some (i + (k : Int)) := by
  unfold consL
  rw [List.getElem?_map, List.getElem?_range h]
  rfl
def singleI (i : Int) (m : Nat) : Nat := if 0 < m ∧ i < 40 ∧ 8 < i + m then 1 else 0
def leavesI (i : Int) (m : Nat) : Nat := if 0 < m ∧ 40 < i + m then ((i + m - 41) / 32 - (max i 40 - 40) / 32 + 2).toNat else 0
theorem blkB_of {x : Int} (h0 : 0 ≤ x) (h1 : x < 1064) : blkB x = true := by unfold blkB; simp; omega
theorem costL_cons {i : Int} (hi : 0 ≤ i) : ∀ m : Nat, i + m ≤ 1064 → costL (consL i m) = 1 + m + singleI i m + leavesI i m
  | 0, _ => rfl
  | m + 1, hm => by
    have ih := costL_cons hi m (by omega)
    have hb : blkB (i + (m : Int)) = true := blkB_of (by omega) (by omega)
    have hx : i + (m : Int) ∉ consL i m := fun h => by have := (consL_mem.1 h).2; omega
    obtain ⟨h1, h2, h3⟩ := costL_snoc hb hx
    rw [consL_succ]
    by_cases c8 : i + (m : Int) < 8
    · rw [h1 c8, ih]
      have e1 : singleI i (m + 1) = singleI i m := by unfold singleI; rw [if_neg (by omega), if_neg (by omega)]
      have e2 : leavesI i (m + 1) = leavesI i m := by unfold leavesI; rw [if_neg (by omega), if_neg (by omega)]
      rw [e1, e2]; omega
    · by_cases c40 : i + (m : Int) < 40
      · rw [h2 (by omega) c40, ih]
        have e2 : leavesI i (m + 1) = 0 ∧ leavesI i m = 0 := ⟨by unfold leavesI; rw [if_neg (by omega)], by unfold leavesI; rw [if_neg (by omega)]⟩
        have e1 : singleI i (m + 1) = 1 := by unfold singleI; rw [if_pos (by omega)]
        rw [e1, e2.1, e2.2]
        by_cases hs : 0 < m ∧ 8 < i + (m : Int)
        · have e0 : singleI i m = 1 := by unfold singleI; rw [if_pos (by omega)]
          rw [e0, if_pos (mem_need1.2 ⟨i + m - 1, consL_mem.2 ⟨by omega, by omega⟩, blkB_of (by omega) (by omega), by omega, by omega⟩)]
          omega
        · have e0 : singleI i m = 0 := by unfold singleI; rw [if_neg (by omega)]
          rw [e0, if_neg (fun h => by
            obtain ⟨y, hy, _, k1, k2⟩ := mem_need1.1 h
            have := consL_mem.1 hy
            omega)]
          omega
      · rw [h3 (by omega), ih]
        have e1 : singleI i (m + 1) = singleI i m := by
          unfold singleI
          by_cases hh : i < 40
          · rw [if_pos (by omega), if_pos (by omega)]
          · rw [if_neg (by omega), if_neg (by omega)]
        rw [e1]
        by_cases hd : 0 < m ∧ 40 < i + (m : Int)
        · have e2 : leavesI i m = ((i + m - 41) / 32 - (max i 40 - 40) / 32 + 2).toNat := by unfold leavesI; rw [if_pos hd]
          have e3 : leavesI i (m + 1) = ((i + ((m + 1 : Nat) : Int) - 41) / 32 - (max i 40 - 40) / 32 + 2).toNat := by unfold leavesI; rw [if_pos (by omega)]
          rw [e2, e3, if_pos (show ((3 : Int), (0 : Int)) ∈ (consL i m).flatMap needL from mem_need3.2 ⟨i + m - 1, consL_mem.2 ⟨by omega, by omega⟩, blkB_of (by omega) (by omega), by omega⟩)]
          by_cases hl : (i + (m : Int) - 41) / 32 = (i + (m : Int) - 40) / 32
          · rw [if_pos (mem_need2.2 ⟨i + m - 1, consL_mem.2 ⟨by omega, by omega⟩, blkB_of (by omega) (by omega), by omega, by omega⟩)]
            omega
          · rw [if_neg (fun h => by
              obtain ⟨y, hy, _, k1, k2⟩ := mem_need2.1 h
              have := consL_mem.1 hy
              omega)]
            omega
        · have e2 : leavesI i m = 0 := by unfold leavesI; rw [if_neg hd]
          have e3 : leavesI i (m + 1) = 2 := by unfold leavesI; rw [if_pos (by omega)]; omega
          have hno : ∀ y ∈ consL i m, ¬ 40 ≤ y := fun y hy => by have := consL_mem.1 hy; omega
          rw [e2, e3, if_neg (fun h => by
            obtain ⟨y, hy, _, k1, k2⟩ := mem_need2.1 h
            exact hno y hy k1), if_neg (fun h => by
            obtain ⟨y, hy, _, k1⟩ := mem_need3.1 h
            exact hno y hy k1)]
          omega
theorem costL_room {i : Int} (hi : 0 ≤ i) {m : Nat} (hm : i + m ≤ 1064) : m + 1 ≤ costL (consL i m) ∧ costL (consL i m) ≤ m + 3 + m / 32 + 1 := by
  rw [costL_cons hi m hm]
  unfold singleI leavesI
  by_cases h1 : 0 < m ∧ i < 40 ∧ 8 < i + m
  · rw [if_pos h1]
    by_cases h2 : 0 < m ∧ 40 < i + m
    · rw [if_pos h2]; omega
    · rw [if_neg h2]; omega
  · rw [if_neg h1]
    by_cases h2 : 0 < m ∧ 40 < i + m
    · rw [if_pos h2]; omega
    · rw [if_neg h2]; omega
end Go.Proofs.YtcpbffmffoneeaaDoor
