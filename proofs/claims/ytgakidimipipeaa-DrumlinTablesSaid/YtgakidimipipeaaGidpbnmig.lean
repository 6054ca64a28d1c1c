/- A usage table's sector, read back: plain facts. -/
import Derived.Test.YtgakidimipipeaaGibfpgcca
import Derived.Test.YtgakidimipipeaaGmhnfnlpg
import Derived.Test.YtgakidimipipeaaGdhnnkina
namespace Go.Proofs.Ytgakidimipipeaa
open Go.RowKit Go.Sort
set_option linter.unusedVariables false
set_option linter.unusedSimpArgs false
set_option maxRecDepth 100000

def fldU (u : UseD) : List FldD := fldUse u.live u.state u.age
theorem fldU_ok {u : UseD} (h : UseOk 16 u) : IsFUse (fldU u) := by
  obtain ⟨h1, h2, h3, h4, h5, h6⟩ := h
  exact ⟨u.live, u.state, u.age, rfl, by unfold I64; omega, by unfold I64; omega, h5, h6⟩
theorem fldU_good {u : UseD} (h : UseOk 16 u) : ∀ y ∈ fldU u, 0 ≤ y.z ∧ u64of y.z < 256 ^ y.width ∧ y.z < 18446744073709551616 := by
  obtain ⟨h1, h2, h3, h4, h5, h6⟩ := h
  intro y hy
  unfold fldU fldUse at hy
  simp only [List.mem_cons, List.not_mem_nil, or_false] at hy
  unfold u64of
  rcases hy with rfl | rfl | rfl <;> dsimp only <;> omega
theorem fldU_rows (us : List UseD) : (us.map fldU).map rowV = usesV us := by
  unfold usesV
  rw [List.map_map]
  rfl
theorem runU_back : ∀ (us : List UseD) (r : List Nat), (∀ s ∈ us, UseOk 16 s) → runD zeroUse [] (.rd (lowsU (us.map fldU).flatten ++ r)) us.length = us.map fldU
  | [], r, _ => rfl
  | x :: L, r, h => by
    have e : lowsU ((x :: L).map fldU).flatten ++ r = lowsU (fldU x) ++ (lowsU (L.map fldU).flatten ++ r) := by
      rw [List.map_cons, List.flatten_cons, lowsU_append, List.append_assoc]
    obtain ⟨s1, s2⟩ := rd_backM (fldU x) zeroUse (lowsU (L.map fldU).flatten ++ r) rfl (fldU_good (h x (List.mem_cons_self ..)))
    rw [e, List.length_cons, runD_shift, s1, s2, runU_back L r fun y hy => h y (List.mem_cons_of_mem _ hy)]
    rfl
theorem uses_room {us : List UseD} (h : ∀ s ∈ us, UseOk 16 s) : roomU (us.map fldU).flatten := by
  intro y hy
  obtain ⟨l, hl, hy⟩ := List.mem_flatten.1 hy
  obtain ⟨s, hs, rfl⟩ := List.mem_map.1 hl
  exact (fldU_good (h s hs) y hy).2.1
theorem uses_fld {us : List UseD} (h : ∀ s ∈ us, UseOk 16 s) : ∀ x ∈ us.map fldU, IsFUse x := by
  intro x hx
  obtain ⟨s, hs, rfl⟩ := List.mem_map.1 hx
  exact fldU_ok (h s hs)
theorem uses_written {us : List UseD} (h : ∀ s ∈ us, UseOk 16 s) (hl : us.length ≤ 15) : writeUse (us.map fldU) = (sealL 5 (lowsU (us.map fldU).flatten), 0) := by
  have hw := wr_room (uses_room h)
  have hu : upUse (us.map fldU) = true := by
    unfold upUse
    rw [Bool.and_eq_true, decide_eq_true_eq, List.length_map]
    refine ⟨hl, List.all_eq_true.2 fun l hl => ?_⟩
    obtain ⟨s, hs, rfl⟩ := List.mem_map.1 hl
    obtain ⟨_, _, h3, h4, _⟩ := h s hs
    exact decide_eq_true ⟨h3, h4⟩
  unfold writeUse
  rw [if_neg (by rw [hu, hw.1]; simp), hw.2]
theorem uses_back {us : List UseD} (h : ∀ s ∈ us, UseOk 16 s) (hl : us.length ≤ 15) : readUse (writeUse (us.map fldU)).1 = (us.map fldU, 0) := by
  have hw := uses_written h hl
  have hlen : (lowsU (us.map fldU).flatten).length = us.length * 7 := by
    have h1 := wrUse_len (uses_fld h)
    rw [(wr_room (uses_room h)).2, List.length_map] at h1
    exact h1
  have hb : bO (writeUse (us.map fldU)).1 = lowsU (us.map fldU).flatten := by rw [hw]; exact bO_seal (by decide) (by omega)
  have hby : Bytes (lowsU (us.map fldU).flatten) := by
    rw [← hb]
    exact bO_bytes (writeUse_bytes (uses_fld h))
  have hc := (items_whole zeroUse_cons zeroUse_w8 hby us.length (by rw [zeroUse_widths]; omega)).1
  have hi : itemsR zeroUse (lowsU (us.map fldU).flatten) = us.map fldU := by
    unfold itemsR
    rw [hc]
    have := runU_back us [] h
    rwa [List.append_nil] at this
  unfold readUse
  rw [hb, hi]
  exact if_pos ⟨by rw [hw], rfl⟩
end Go.Proofs.Ytgakidimipipeaa
