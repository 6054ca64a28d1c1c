/- A summary read back from the bytes that it was written as. -/
import Derived.Test.YtgakidimipipeaaGreatGlbmbdmcb
namespace Go.Proofs.YtgakidimipipeaaGreat
open Go.RowKit Go.Sort
set_option linter.unusedVariables false
set_option linter.unusedSimpArgs false
set_option maxRecDepth 100000

theorem runD_back : ∀ (L : List (List FldD)) (r : List Nat), (∀ x ∈ L, x.map (fun y => (y.kind, y.width)) = zeroEntry.map (fun y => (y.kind, y.width)) ∧ ∀ y ∈ x, 0 ≤ y.z ∧ u64of y.z < 256 ^ y.width ∧ y.z < 18446744073709551616) →
    runD zeroEntry [] (.rd (lowsU L.flatten ++ r)) L.length = L
  | [], r, _ => rfl
  | x :: L, r, h => by
    obtain ⟨h1, h2⟩ := h x (List.mem_cons_self ..)
    have e : lowsU (x :: L).flatten ++ r = lowsU x ++ (lowsU L.flatten ++ r) := by
      rw [List.flatten_cons, lowsU_append, List.append_assoc]
    obtain ⟨s1, s2⟩ := rd_back x zeroEntry (lowsU L.flatten ++ r) h1 h2
    rw [e, List.length_cons, runD_shift, s1, s2, runD_back L r fun y hy => h y (List.mem_cons_of_mem _ hy)]
theorem rdD_back {D : SumD} (h : OkD D) (hu : upEntry D.list = true) (hr : roomU (allF D)) : rdD (lowsU (allF D)) = D := by
  obtain ⟨hr1, hr2⟩ := room_append.1 hr
  have hlen := upEntry_len hu
  obtain ⟨n1, n2⟩ := (room_sumF h (by omega)).1 hr1
  obtain ⟨k0, k1, k3, k4, hL⟩ := h
  have hb : lowsU (allF D) = lowsU (sumF D.seq D.first D.commit D.list.length D.next D.time) ++ (lowsU D.list.flatten ++ []) := by rw [List.append_nil]; exact lowsU_append _ _
  obtain ⟨s1, s2⟩ := rd_back (sumF D.seq D.first D.commit D.list.length D.next D.time) (sumF 0 0 false 0 0 0) (lowsU D.list.flatten ++ []) rfl (fun x hx => by
    refine ⟨?_, hr1 x hx, ?_⟩ <;>
    · unfold sumF at hx
      simp only [List.mem_cons, List.not_mem_nil, or_false] at hx
      rcases hx with rfl | rfl | rfl | rfl | rfl | rfl <;> dsimp only <;> (try unfold flagN) <;> (try split) <;> omega)
  rw [← hb] at s1 s2
  have hl : rdList (lowsU (allF D)) = runD zeroEntry [] (.rd (lowsU D.list.flatten ++ [])) (countS (lowsU (allF D))) := by
    unfold rdList
    rw [sumS_is _ _ _ _ (by decide) (by decide) (by decide)]
    show runD zeroEntry [] (stS (.rd (lowsU (allF D))) (sumF 0 0 false 0 0 0)) _ = _
    rw [s1]
  have hlist := runD_back D.list [] (fun x hx => by
    obtain ⟨z0, z1, z2, z3, rfl, a0, a1, a2, a3⟩ := hL x hx
    refine ⟨rfl, fun y hy => ⟨?_, room_flat.1 hr2 _ hx y hy, ?_⟩⟩ <;>
    · have hm := List.all_eq_true.1 (by unfold upEntry at hu; exact (Bool.and_eq_true_iff.1 hu).2) _ hx
      have hm : 1 ≤ z0 ∧ z0 ≤ 6 := of_decide_eq_true hm
      obtain ⟨b1, b2, b3⟩ := (room_entry hm a1 a2 a3).1 (room_flat.1 hr2 _ hx)
      unfold fldEntry at hy
      simp only [List.mem_cons, List.not_mem_nil, or_false] at hy
      rcases hy with rfl | rfl | rfl | rfl <;> dsimp only <;> omega)
  unfold sumF at s2
  generalize hB : lowsU (allF D) = B at s2 hl ⊢
  simp only [stO, List.cons.injEq, FldD.mk.injEq, true_and, and_true] at s2
  obtain ⟨t0, t1, t2, t3, t4, t5⟩ := s2
  have e0 : rdSeq B = D.seq := by
    have : ((rdSeq B : Nat) : Int) = D.seq := t0
    omega
  have e1 : rdFirst B = D.first := by
    have : ((rdFirst B : Nat) : Int) = D.first := (numI_nat _ _ 0).symm.trans t1
    omega
  have e2 : rdCommit B = D.commit := by
    have : rdCommit B = (flagN D.commit != 0) := by rw [← t2]; rfl
    rw [this]
    unfold flagN
    cases D.commit <;> rfl
  have e3 : countS B = D.list.length := by
    have : ((countS B : Nat) : Int) = D.list.length := (numI_nat _ _ 0).symm.trans t3
    omega
  have e4 : rdNext B = D.next := t4
  have e5 : rdTime B = D.time := by
    have : ((rdTime B : Nat) : Int) = D.time := (numI_nat _ _ 0).symm.trans t5
    omega
  have e6 : rdList B = D.list := by rw [hl, e3]; exact hlist
  unfold rdD
  rw [e0, e1, e2, e4, e5, e6]
end Go.Proofs.YtgakidimipipeaaGreat
