/- Numbers read back from the bytes that they were written as. -/
import Derived.Test.YtgakidimipipeaaGreatGekppfkcd
namespace Go.Proofs.YtgakidimipipeaaGreat
open Go.RowKit Go.Sort
set_option linter.unusedVariables false
set_option linter.unusedSimpArgs false
set_option maxRecDepth 100000

theorem rd_back : ∀ (l m : List FldD) (r : List Nat), l.map (fun x => (x.kind, x.width)) = m.map (fun x => (x.kind, x.width)) → (∀ x ∈ l, 0 ≤ x.z ∧ u64of x.z < 256 ^ x.width ∧ x.z < 18446744073709551616) →
    stS (.rd (lowsU l ++ r)) m = .rd r ∧ stO (.rd (lowsU l ++ r)) m = l
  | [], [], r, _, _ => ⟨rfl, rfl⟩
  | [], y :: m, r, h, _ => by simp at h
  | x :: l, [], r, h, _ => by simp at h
  | x :: l, y :: m, r, h, hx => by
    simp only [List.map_cons, List.cons.injEq, Prod.mk.injEq] at h
    obtain ⟨⟨hk, hw⟩, h⟩ := h
    obtain ⟨h0, h1, h2⟩ := hx x (List.mem_cons_self ..)
    obtain ⟨i1, i2⟩ := rd_back l m r h (fun z hz => hx z (List.mem_cons_of_mem _ hz))
    have e : lowsU (x :: l) ++ r = low (u64of x.z) x.width ++ (lowsU l ++ r) := by
      show (low (u64of x.z) x.width ++ lowsU l) ++ r = _
      rw [List.append_assoc]
    have hlen : (low (u64of x.z) x.width).length = x.width := low_length _ _
    have hle : x.width ≤ (low (u64of x.z) x.width ++ (lowsU l ++ r)).length := by rw [List.length_append, hlen]; omega
    have ht : (low (u64of x.z) x.width ++ (lowsU l ++ r)).take x.width = low (u64of x.z) x.width := List.take_left' hlen
    have hd : (low (u64of x.z) x.width ++ (lowsU l ++ r)).drop x.width = lowsU l ++ r := List.drop_left' hlen
    have hnext : PS.next (.rd (low (u64of x.z) x.width ++ (lowsU l ++ r))) y.width (u64of y.z) = .rd (lowsU l ++ r) := by
      rw [← hw]
      exact (if_pos hle).trans (by rw [hd])
    have hnum : (PS.rd (low (u64of x.z) x.width ++ (lowsU l ++ r))).numI y.width y.z = x.z := by
      rw [← hw]
      show ((PS.num (.rd _) x.width (u64of y.z) : Nat) : Int) = x.z
      have : PS.num (.rd (low (u64of x.z) x.width ++ (lowsU l ++ r))) x.width (u64of y.z) = u64of x.z := (if_pos hle).trans (by rw [ht]; exact le_low _ _ h1)
      rw [this]
      unfold u64of
      omega
    rw [e]
    refine ⟨?_, ?_⟩
    · show stS (PS.next (.rd _) y.width (u64of y.z)) m = _
      rw [hnext]
      exact i1
    · show { y with z := (PS.rd _).numI y.width y.z } :: stO (PS.next (.rd _) y.width (u64of y.z)) m = _
      rw [hnext, hnum, i2]
      cases x
      cases y
      simp only at hk hw ⊢
      subst hk hw
      rfl
end Go.Proofs.YtgakidimipipeaaGreat
