/- What is read of a sector as a summary: the document's word and the program's, as plain bytes. -/
import Derived.Test.YtplkglepbedhoaaGmknhbofl
import Derived.Test.YtplkglepbedhoaaGomaiddnc
namespace Go.Proofs.Ytplkglepbedhoaa
open Go.RowKit Go.Sort
set_option linter.unusedVariables false
set_option linter.unusedSimpArgs false
set_option maxRecDepth 100000

def numL (b : List Nat) (i k : Nat) : Nat := le ((b.drop i).take k)
def entOf (b : List Nat) : List FldD := fldEntry (numL b 0 1 : Nat) (numL b 1 2 : Nat) (numL b 3 4 : Nat) (numL b 7 2 : Nat)
def entsOf (b : List Nat) (m : Nat) : List (List FldD) := (List.range m).map fun j => entOf (b.drop (j * 9))
def sumOf (b : List Nat) : SumD := ⟨numL b 0 8, numL b 8 8, decide (numL b 16 1 = 1), (numL b 18 2 : Nat), numL b 20 4, entsOf (b.drop 24) (numL b 17 1)⟩
theorem next_pos {b : List Nat} {k v : Nat} (h : k ≤ b.length) : PS.next (.rd b) k v = .rd (b.drop k) := if_pos h
theorem num_pos {b : List Nat} {k n : Nat} (h : k ≤ b.length) : PS.num (.rd b) k n = le (b.take k) := if_pos h
theorem entOf_is {b : List Nat} (h : 9 ≤ b.length) : stO (.rd b) zeroEntry = entOf b := by
  have hz : zeroEntry = [⟨.i64, 1, 0⟩, ⟨.u32, 2, 0⟩, ⟨.u32, 4, 0⟩, ⟨.i64, 2, 0⟩] := rfl
  rw [hz, stO_rd_cons (by dsimp only; omega), stO_rd_cons (by simp; omega), stO_rd_cons (by simp; omega), stO_rd_cons (by simp; omega)]
  simp only [List.drop_drop]
  rfl
theorem ents_is : ∀ (m : Nat) (b : List Nat), Bytes b → m * 9 ≤ b.length → runD zeroEntry [] (.rd b) m = entsOf b m
  | 0, b, _, _ => rfl
  | m + 1, b, hb, h => by
    have h9 : 9 ≤ b.length := by omega
    obtain ⟨s1, _, _⟩ := rd_whole zeroEntry b hb (by decide) (show widths zeroEntry ≤ b.length by rw [zeroEntry_widths]; exact h9)
    rw [zeroEntry_widths] at s1
    rw [runD_shift, s1, entOf_is h9, ents_is m (b.drop 9) (hb.drop _) (by rw [List.length_drop]; omega)]
    unfold entsOf
    rw [List.range_succ_eq_map, List.map_cons, List.map_map]
    congr 1
    · apply List.map_congr_left
      intro j _
      show entOf ((b.drop 9).drop (j * 9)) = entOf (b.drop ((j + 1) * 9))
      rw [List.drop_drop]
      congr 2
      omega
theorem sumF_rd {b : List Nat} (h24 : 24 ≤ b.length) : stO (.rd b) (sumF 0 0 false 0 0 0) = [⟨.u64, 8, (numL b 0 8 : Nat)⟩, ⟨.u64, 8, (numL b 8 8 : Nat)⟩, ⟨.i64, 1, (numL b 16 1 : Nat)⟩, ⟨.i64, 1, (numL b 17 1 : Nat)⟩, ⟨.i64, 2, (numL b 18 2 : Nat)⟩, ⟨.u32, 4, (numL b 20 4 : Nat)⟩] := by
  have hz : sumF 0 0 false 0 0 0 = [⟨.u64, 8, 0⟩, ⟨.u64, 8, 0⟩, ⟨.i64, 1, 0⟩, ⟨.i64, 1, 0⟩, ⟨.i64, 2, 0⟩, ⟨.u32, 4, 0⟩] := rfl
  rw [hz, stO_rd_cons (by dsimp only; omega), stO_rd_cons (by simp; omega), stO_rd_cons (by simp; omega), stO_rd_cons (by simp; omega), stO_rd_cons (by simp; omega), stO_rd_cons (by simp; omega)]
  simp only [List.drop_drop]
  rfl
theorem rdD_sumOf {b : List Nat} (hb : Bytes b) (h24 : 24 ≤ b.length) (hf : numL b 16 1 ≤ 1) (hl : 24 + numL b 17 1 * 9 ≤ b.length) : rdD b = sumOf b := by
  have e0 : rdSeq b = numL b 0 8 := num_pos (by omega)
  have e1 : rdFirst b = numL b 8 8 := by
    unfold rdFirst
    rw [next_pos (by omega), num_pos (by simp; omega)]
    rfl
  have e2 : rdCommit b = decide (numL b 16 1 = 1) := by
    have h1 : rdCommit b = ((((PS.rd b).next 8 0).next 8 0).numI 1 (flagN false) != 0) := rfl
    have h2 : (((PS.rd b).next 8 0).next 8 0).numI 1 (flagN false) = ((numL b 16 1 : Nat) : Int) := by
      rw [next_pos (by omega), next_pos (by simp; omega)]
      have h3 : PS.num (.rd ((b.drop 8).drop 8)) 1 0 = le (((b.drop 8).drop 8).take 1) := num_pos (by simp; omega)
      rw [List.drop_drop] at h3 ⊢
      show ((PS.num (.rd (b.drop (8 + 8))) 1 0 : Nat) : Int) = _
      rw [h3]
      rfl
    rw [h1, h2]
    generalize numL b 16 1 = q at *
    have : q = 0 ∨ q = 1 := by omega
    rcases this with rfl | rfl <;> rfl
  have e3 : countS b = numL b 17 1 := by
    unfold countS
    rw [next_pos (by omega), next_pos (by simp; omega), next_pos (by simp; omega), num_pos (by simp; omega)]
    simp only [List.drop_drop]
    rfl
  have e4 : rdNext b = (numL b 18 2 : Nat) := by
    unfold rdNext
    rw [next_pos (by omega), next_pos (by simp; omega), next_pos (by simp; omega), next_pos (by simp; omega)]
    show ((PS.num (.rd _) 2 0 : Nat) : Int) = _
    rw [num_pos (by simp; omega)]
    simp only [List.drop_drop]
    rfl
  have e5 : rdTime b = numL b 20 4 := by
    unfold rdTime
    rw [next_pos (by omega), next_pos (by simp; omega), next_pos (by simp; omega), next_pos (by simp; omega), next_pos (by simp; omega), num_pos (by simp; omega)]
    simp only [List.drop_drop]
    rfl
  have e6 : rdList b = entsOf (b.drop 24) (numL b 17 1) := by
    unfold rdList
    rw [sumS_is _ _ _ _ (by decide) (by decide) (by decide)]
    obtain ⟨s1, _, _⟩ := rd_whole (sumF 0 0 false 0 0 0) b hb (by decide) (show widths (sumF 0 0 false 0 0 0) ≤ b.length by rw [sumF_widths]; exact h24)
    rw [sumF_widths] at s1
    show runD zeroEntry [] (stS (.rd b) (sumF 0 0 false 0 0 0)) _ = _
    rw [s1, e3]
    exact ents_is _ _ (hb.drop _) (by rw [List.length_drop]; omega)
  unfold rdD sumOf
  rw [e0, e1, e2, e4, e5, e6]
theorem sumOf_len (b : List Nat) : (sumOf b).list.length = numL b 17 1 := by unfold sumOf entsOf; simp
/-- A body that is a summary's, but for its entries' kinds. -/
def GoodB (b : List Nat) : Prop := 24 ≤ b.length ∧ numL b 16 1 ≤ 1 ∧ b.length = 24 + numL b 17 1 * 9
theorem GoodB.rd {b : List Nat} (h : GoodB b) (hb : Bytes b) : rdD b = sumOf b := rdD_sumOf hb h.1 h.2.1 (by have := h.2.2; omega)
theorem GoodB.back {b : List Nat} (h : GoodB b) (hb : Bytes b) : lowsU (allF (sumOf b)) = b ∧ roomU (allF (sumOf b)) := by
  obtain ⟨h24, hf, hl⟩ := h
  obtain ⟨_, s2, s3⟩ := rd_whole (sumF 0 0 false 0 0 0) b hb (by decide) (show widths (sumF 0 0 false 0 0 0) ≤ b.length by rw [sumF_widths]; exact h24)
  rw [sumF_widths] at s2
  obtain ⟨i1, i2, i3⟩ := items_whole zeroEntry_cons (fun x hx => by have := zeroEntry_width x hx; omega) (hb.drop 24) (numL b 17 1) (by rw [zeroEntry_widths, List.length_drop]; omega)
  have hi : itemsR zeroEntry (b.drop 24) = entsOf (b.drop 24) (numL b 17 1) := by
    unfold itemsR
    rw [i1]
    exact ents_is _ _ (hb.drop _) (by rw [List.length_drop]; omega)
  rw [hi] at i2 i3
  rw [sumF_rd h24] at s2 s3
  have ha : allF (sumOf b) = [⟨.u64, 8, (numL b 0 8 : Nat)⟩, ⟨.u64, 8, (numL b 8 8 : Nat)⟩, ⟨.i64, 1, (numL b 16 1 : Nat)⟩, ⟨.i64, 1, (numL b 17 1 : Nat)⟩, ⟨.i64, 2, (numL b 18 2 : Nat)⟩, ⟨.u32, 4, (numL b 20 4 : Nat)⟩] ++ (entsOf (b.drop 24) (numL b 17 1)).flatten := by
    have hfl : flagN (decide (numL b 16 1 = 1)) = ((numL b 16 1 : Nat) : Int) := by
      generalize numL b 16 1 = q at *
      have : q = 0 ∨ q = 1 := by omega
      rcases this with rfl | rfl <;> rfl
    unfold allF
    rw [sumOf_len]
    show sumF (numL b 0 8) (numL b 8 8) (decide (numL b 16 1 = 1)) (numL b 17 1) (numL b 18 2 : Nat) (numL b 20 4) ++ _ = _
    unfold sumF
    rw [hfl]
    rfl
  rw [ha]
  refine ⟨?_, room_append.2 ⟨s3, i3⟩⟩
  rw [lowsU_append, s2, i2, List.take_append_drop]
theorem le_single (x : Nat) : le [x] = x := by show x + 256 * 0 = x; omega
theorem GoodB.of_write {D : SumD} (h : OkD D) (hu : upEntry D.list = true) (hr : roomU (allF D)) (hn : 0 ≤ D.next) : GoodB (lowsU (allF D)) ∧ (lowsU (allF D)).length = 24 + D.list.length * 9 := by
  have hlen := upEntry_len hu
  obtain ⟨r1, r2⟩ := room_append.1 hr
  obtain ⟨n1, n2⟩ := (room_sumF h (by omega)).1 r1
  obtain ⟨y3, hy3⟩ := Int.eq_ofNat_of_zero_le n1
  have ht : lowsU (allF D) = headB D.seq D.first D.commit D.list.length y3 D.time ++ lowsU D.list.flatten := by
    unfold allF
    rw [lowsU_append, hy3, lowsU_sumF h.1 h.2.1 (by omega) (by omega) h.2.2.2.1]
  have hl : (lowsU (allF D)).length = 24 + D.list.length * 9 := by rw [ht, List.length_append, headB_length, lowsU_flat_len h.2.2.2.2]
  have hd : (lowsU (allF D)).drop 16 = [flagB D.commit, D.list.length] ++ (low y3 2 ++ low D.time 4 ++ lowsU D.list.flatten) := by
    rw [ht]
    have e : headB D.seq D.first D.commit D.list.length y3 D.time ++ lowsU D.list.flatten = (low D.seq 8 ++ low D.first 8) ++ ([flagB D.commit, D.list.length] ++ (low y3 2 ++ low D.time 4 ++ lowsU D.list.flatten)) := by
      unfold headB
      simp only [List.append_assoc]
    rw [e]
    exact List.drop_left' (by rw [List.length_append, low_length, low_length])
  have hd17 : (lowsU (allF D)).drop 17 = [D.list.length] ++ (low y3 2 ++ low D.time 4 ++ lowsU D.list.flatten) := by
    rw [show (17 : Nat) = 16 + 1 from rfl, ← List.drop_drop, hd]
    rfl
  have e16 : numL (lowsU (allF D)) 16 1 = flagB D.commit := by
    unfold numL
    rw [hd]
    exact le_single _
  have e17 : numL (lowsU (allF D)) 17 1 = D.list.length := by
    unfold numL
    rw [hd17]
    exact le_single _
  refine ⟨⟨by omega, ?_, by rw [e17]; exact hl⟩, hl⟩
  rw [e16]
  unfold flagB
  split <;> decide
/-- What is read of a sector. -/
theorem readSm_yes {s : List Nat} (hb : Bytes s) (ho : openB s = true) (hk : kindL s = 3) (hg : GoodB (bodyL s)) (hu : upEntry (sumOf (bodyL s)).list = true) : readSm s = (sumOf (bodyL s), 0) := by
  have hbo : bO s = bodyL s := if_pos ho
  have hbb := bodyL_byt hb
  obtain ⟨g1, g2⟩ := hg.back hbb
  have hw := writeD_good (D := sumOf (bodyL s)) hu g2
  rw [g1] at hw
  have hs : sealL 3 (bodyL s) = s := by
    unfold openB at ho
    obtain ⟨_, h5, h6⟩ := of_decide_eq_true ho
    rw [hk] at h6
    exact h6
  unfold readSm
  rw [hbo, hg.rd hbb, hw]
  exact if_pos ⟨rfl, hs⟩
theorem readSm_no {s : List Nat} (hs : s.length = 128) (hb : Bytes s) (h : ¬ (openB s = true ∧ kindL s = 3 ∧ GoodB (bodyL s) ∧ upEntry (sumOf (bodyL s)).list = true)) : readSm s = (zeroD, 21) := by
  unfold readSm
  refine if_neg ?_
  rintro ⟨h1, h2⟩
  have hok : OkD (rdD (bO s)) := rdD_is (bO_bytes hb)
  have hnn := (rdSum_is (bO_bytes hb)).2.2.1.1
  have hnn : 0 ≤ (rdD (bO s)).next := hnn
  obtain ⟨D, hD⟩ : ∃ D, rdD (bO s) = D := ⟨_, rfl⟩
  rw [hD] at h1 h2 hok hnn
  rcases writeD_cases D with ⟨hu, hr, e⟩ | ⟨_, e⟩
  · rw [e] at h2
    obtain ⟨hg, hl⟩ := GoodB.of_write hok hu hr hnn
    have hlen := upEntry_len hu
    have h120 : (lowsU (allF D)).length ≤ 120 := by rw [hl]; omega
    have hback := rdD_back hok hu hr
    have hby : Bytes (lowsU (allF D)) := by
      intro x hx
      obtain ⟨y, _, hy⟩ := List.mem_flatMap.1 hx
      exact low_bytes _ _ x hy
    have hrd := hg.rd hby
    rw [hback] at hrd
    apply h
    have h2' : sealL 3 (lowsU (allF D)) = s := h2
    rw [← h2', openB_sealL (by decide) h120, sealL_kind, sealL_body _ _ h120, ← hrd]
    exact ⟨rfl, rfl, hg, hu⟩
  · rw [e] at h1
    exact absurd h1 (by decide)
end Go.Proofs.Ytplkglepbedhoaa
