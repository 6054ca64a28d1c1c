/- slices.Delete at processes, by its walk. -/
import Derived.Test.YthainmbapikjiaaProc7
namespace Go.Proofs.Ythainmbapikjiaa
open Go.RowKit Go.Sort
set_option linter.unusedVariables false
set_option linter.unusedSimpArgs false
set_option maxRecDepth 100000

theorem zero_proc (W : World) : (zeroValue 75).run Try.prog W = .ok (.agg #[.int .i64 0, .int .i64 0, .int .i64 0, .int .i64 0, .int .i64 0, .bool false]) W := by kernel_rfl
theorem add_noneT (b off i : Nat) : (⟨b, off, none⟩ : Addr).add i = ⟨b, off + i, none⟩ := by unfold Addr.add; split <;> simp_all
theorem size_procT (W : World) : (Go.sizeOf 75).run Try.prog W = .ok 6 W := by kernel_rfl
theorem slice_low (gs L cap j : Nat) (hj : j ≤ L) (hL : L ≤ cap) (W : World) : (Instr.sliceAt 150 (.slice (some ⟨gs, 0, none⟩) L cap) (some (.int .i64 (j : Int))) none none).run Try.prog W = .ok (.slice (some (if cap = j then ⟨gs, 0, none⟩ else ⟨gs, j * 6, none⟩)) (L - j) (cap - j)) W := by
  have ht : Try.prog.underlying 150 = some (.slice (Try.prog.elem 150)) := by kernel_rfl
  have he : Try.prog.elem 150 = 75 := by kernel_rfl
  rw [run_sliceAt_slice _ _ _ _ _ _ ht, run_slice_l _ _ _ _ _ ht .i64 _ (by omega) (by omega), he, size_procT]
  simp only [Result.andThen_ok, sliced, Int.toNat_natCast]
  by_cases h : cap = j
  · simp [h]
  · simp [h, Addr.add]
    try (intro h0; exact h0.symm)
theorem slice_high (gs L cap i : Nat) (hi : i ≤ cap) (hc : 0 < cap) (W : World) : (Instr.sliceAt 150 (.slice (some ⟨gs, 0, none⟩) L cap) none (some (.int .i64 (i : Int))) none).run Try.prog W = .ok (.slice (some ⟨gs, 0, none⟩) i cap) W := by
  have ht : Try.prog.underlying 150 = some (.slice (Try.prog.elem 150)) := by kernel_rfl
  have he : Try.prog.elem 150 = 75 := by kernel_rfl
  rw [run_sliceAt_slice _ _ _ _ _ _ ht, run_slice_h _ _ _ _ _ ht .i64 _ (by omega) (by omega), he, size_procT]
  simp only [Result.andThen_ok, sliced, Int.toNat_natCast, Nat.sub_zero]
  rw [if_neg (by omega)]
  simp [Addr.add]
def zero6 : List Value := [.int .i64 0, .int .i64 0, .int .i64 0, .int .i64 0, .int .i64 0, .bool false]
set_option maxHeartbeats 1600000 in
theorem tdelete_is {B : Nat} {w : World} {gs cap L : Nat} {l : List ProcD} (h : OwnsR' B w 75 6 (.slice (some ⟨gs, 0, none⟩) L cap) (procsV l)) (hl : l.length = L) (hL : L ≤ 16) (i j : Nat) (hj : j = i + 1) (hi : i < L) :
    Calls Try.prog 122 #[.slice (some ⟨gs, 0, none⟩) L cap, .int .i64 (i : Int), .int .i64 (j : Int)] w fun e w' => e = .returned (.slice (some ⟨gs, 0, none⟩) (L - 1) cap) ∧ OwnsR' B w' 75 6 (.slice (some ⟨gs, 0, none⟩) (L - 1) cap) (procsV (l.eraseIdx i)) ∧ w.grownBy w' (some gs) := by
  have hpl : (procsV l).length = L := by rw [procsV_length]; exact hl
  obtain ⟨a9, c9, e9, hrd, hlc, hcm⟩ := h.reads
  obtain ⟨rfl, -, rfl⟩ := Value.slice.inj e9
  rw [hpl] at hlc
  obtain ⟨i0, hi0, hz0, hz1, hz2⟩ := info_parts info_proc
  have hx0 : (0 : Int) ≤ (i : Int) := by omega
  have hx1 : (i : Int) ≤ (j : Int) := by omega
  have hx2 : (j : Int) ≤ (L : Int) := by omega
  have hx3 : (L : Int) ≤ (cap : Int) := by omega
  have hx4 : ((i : Int) == (j : Int)) = false := by simp; omega
  have hcapm : (cap : Int) ≤ 9223372036854775807 := by unfold maxLen at hcm; omega
  -- the rows that are moved
  obtain ⟨R, hR⟩ : ∃ R, (procsV l).drop j = R := ⟨_, rfl⟩
  have hRl : R.length = L - j := by rw [← hR, List.length_drop, hpl]
  have hRk : ∀ p ∈ R, p.length = 6 := fun p hp => procs_rows l p (by rw [← hR] at hp; exact List.mem_of_mem_drop hp)
  have hRo : OneRows R := fun p hp => procsV_one l p (by rw [← hR] at hp; exact List.mem_of_mem_drop hp)
  have hw2 : OwnsR' B w.drew 75 6 (.slice (some ⟨gs, 0, none⟩) L cap) (procsV l) := h.below (below_drew w)
  have hmany := rows_many R i w.drew (procsV l) hw2 hpl (by rw [hRl]; omega) hRk
  have hcut := hmany.1.shrink (by rw [List.length_append, List.length_append, List.length_take, List.length_drop, hpl, hRl]; omega) (show L - 1 ≤ L by omega)
  have hrows : ((procsV l).take i ++ R ++ (procsV l).drop (i + R.length)).take (L - 1) = procsV (l.eraseIdx i) := by
    rw [List.take_append_of_le_length (by rw [List.length_append, List.length_take, hpl, hRl]; omega), List.take_of_length_le (by rw [List.length_append, List.length_take, hpl, hRl]; omega), ← hR, List.eraseIdx_eq_take_drop_succ, hj]
    unfold procsV
    rw [List.map_append, List.map_take, List.map_drop]
  rw [hrows] at hcut
  obtain ⟨W1, hW1⟩ : ∃ x, w.drew.setCells gs (i * 6) (flatR R) = x := ⟨_, rfl⟩
  rw [hW1] at hmany hcut
  have hle : (procsV (l.eraseIdx i)).length = L - 1 := by rw [procsV_length, List.length_eraseIdx_of_lt (by omega), hl]
  have hsp := hcut.spares hle zero6 ((L - 1) * 6) _ (Nat.le_refl _)
  have hfree := fun q => hmany.1.frozen (by rw [List.length_append, List.length_append, List.length_take, List.length_drop, hpl, hRl]; omega) q
  have hsome : ∀ q, q < 6 → (W1.cell? ⟨gs, (L - 1) * 6 + q, none⟩).isSome = true := fun q hq => by
    obtain ⟨r, hr⟩ : ∃ r, ((procsV l).take i ++ R ++ (procsV l).drop (i + R.length))[L - 1]? = some r := ⟨_, List.getElem?_eq_getElem (by rw [List.length_append, List.length_append, List.length_take, List.length_drop, hpl, hRl]; omega)⟩
    have hrl := hmany.1.1 r (List.mem_of_getElem? hr)
    rw [hmany.1.head.2.2 (L - 1) r hr q (r[q]'(by omega)) (List.getElem?_eq_getElem _)]
    rfl
  have hcl : ∀ ty, (Builtin.clear_ #[150] ty #[.slice (some ⟨gs, (L - 1) * 6, none⟩) 1 (cap - (L - 1))]).run Try.prog W1 = .ok (.tuple #[]) (W1.setCells gs ((L - 1) * 6) zero6) := fun ty =>
    run_clear_rows W1 _ 75 ty _ Try.underlying150 zero_proc gs ((L - 1) * 6) 1 _ (by decide) zero6 (by kernel_rfl) (by intro v hv; simp [zero6] at hv; rcases hv with rfl | rfl <;> rfl) (fun q hq => hsome q hq) (fun q _ => hfree _)
  obtain ⟨W2, hW2⟩ : ∃ x, W1.setCells gs ((L - 1) * 6) zero6 = x := ⟨_, rfl⟩
  rw [hW2] at hsp hcl
  have HFIN : Hid (OwnsR' B W2 75 6 (.slice (some ⟨gs, 0, none⟩) (L - 1) cap) (procsV (l.eraseIdx i)) ∧ w.grownBy W2 (some gs)) := Lib.hid ⟨hsp.1, grown_transT (grown_belowT (below_drew w) hmany.2) hsp.2⟩
  -- the append
  obtain ⟨A, hA⟩ : ∃ A : Addr, (if cap = j then (⟨gs, 0, none⟩ : Addr) else ⟨gs, j * 6, none⟩) = A := ⟨_, rfl⟩
  have hs1 := fun W => slice_high gs L cap i (by omega) (by omega) W
  have hs2 := fun W => slice_low gs L cap j (by omega) (by omega) W
  rw [hA] at hs2
  have S1 : Hid ((flatR R).length = (L - j) * 6) := Lib.hid (by rw [flatR_length hRk, hRl])
  have S2 : Hid (∀ u ∈ flatR R, u.oneCell' = true) := Lib.hid (OneRows.flat hRo)
  have S3 : Hid (∀ t u, (flatR R)[t]? = some u → w.drew.cell? (A.add t) = some u) := Lib.hid (fun t u hu => by
    have htl := (List.getElem?_eq_some_iff.1 hu).1
    rw [flatR_length hRk, hRl] at htl
    have hne : cap ≠ j := by rintro rfl; omega
    rw [← hA, if_neg hne]
    rw [add_noneT]
    have hq : t / 6 < R.length := by rw [hRl]; omega
    obtain ⟨r, hr⟩ : ∃ r, R[t / 6]? = some r := ⟨_, List.getElem?_eq_getElem hq⟩
    have h1 : (flatR R)[t / 6 * 6 + t % 6]? = r[t % 6]? := flatR_get hRk hr (Nat.mod_lt _ (by decide))
    rw [show t / 6 * 6 + t % 6 = t by omega, hu] at h1
    have h2 : (procsV l)[j + t / 6]? = some r := by rw [← hR, List.getElem?_drop] at hr; exact hr
    have h3 := hw2.head.2.2 (j + t / 6) r h2 (t % 6) u h1.symm
    rw [show (j + t / 6) * 6 + t % 6 = j * 6 + t by omega] at h3
    exact h3)
  have S4 : Hid (∀ t, t < (flatR R).length → (w.drew.cell? ⟨gs, 0 + i * 6 + t, none⟩).isSome = true ∧ w.drew.frozen? ⟨gs, 0 + i * 6 + t, none⟩ = false) := Lib.hid (fun t ht => by
    rw [S1.out] at ht
    rw [Nat.zero_add]
    refine ⟨?_, hw2.frozen hpl _⟩
    obtain ⟨r, hr⟩ : ∃ r, (procsV l)[i + t / 6]? = some r := ⟨_, List.getElem?_eq_getElem (by rw [hpl]; omega)⟩
    have hrl := procs_rows l r (List.mem_of_getElem? hr)
    have h3 := hw2.head.2.2 (i + t / 6) r hr (t % 6) (r[t % 6]'(by rw [hrl]; exact Nat.mod_lt _ (by decide))) (List.getElem?_eq_getElem _)
    rw [show (i + t / 6) * 6 + t % 6 = i * 6 + t by omega] at h3
    rw [h3]; rfl)
  have HI := Lib.hid (And.intro hi0 hz1)
  have HJ : Hid (i + (L - j) = L - 1 ∧ i + (L - j) ≤ cap) := Lib.hid ⟨by omega, by omega⟩
  have hy1 : ((L - 1 : Nat) : Int) ≤ (L : Int) := by omega
  have hy2 : (0 : Int) ≤ ((L - 1 : Nat) : Int) := by omega
  have hcl1 : ∀ W, (Instr.sliceAt 150 (.slice (some ⟨gs, 0, none⟩) (L - 1) cap) (some (.int .i64 ((L - 1 : Nat) : Int))) (some (.int .i64 (L : Int))) none).run Try.prog W = .ok (.slice (some ⟨gs, (L - 1) * 6, none⟩) 1 (cap - (L - 1))) W := fun W => by
    have ht : Try.prog.underlying 150 = some (.slice (Try.prog.elem 150)) := by kernel_rfl
    have he : Try.prog.elem 150 = 75 := by kernel_rfl
    rw [run_sliceAt_slice _ _ _ _ _ _ ht, run_slice_lh _ _ _ _ _ ht .i64 .i64 _ _ (by omega) (by omega) (by omega), he, size_procT]
    simp only [Result.andThen_ok, sliced, Int.toNat_natCast]
    rw [if_neg (by omega), show L - (L - 1) = 1 by omega]
    simp only [Option.map_some, add_noneT, Nat.zero_add]
  have HCL1 := Lib.hid hcl1
  have HCL := Lib.hid hcl
  have HW1 := Lib.hid hW1
  obtain ⟨M, hM⟩ : ∃ x, L - 1 = x := ⟨_, rfl⟩
  rw [hM] at HJ HCL1 HCL HFIN hy1 hy2 ⊢
  have hb1 : i ≤ cap := by omega
  have hb2 : j ≤ L := by omega
  have hb3 : ¬ cap < i := by omega
  have hb4 : ¬ L < j := by omega
  have hb5 : (i : Int) ≤ (cap : Int) := by omega
  have hb6 : ¬ L = i := by omega
  clear h hl hpl hj hi hrd hlc hcm e9 hR hRl hRk hRo hw2 hmany hcut hrows hW1 hle hsp hfree hsome hcl hW2 hA hi0 hz0 hz1 hz2 hL hcl1 hM
  go_enter Try.func122, Try.ntmps122
  go_wp2_with fail
  refine wp_region_held_drew (S := fun W => True) (by kernel_rfl) trivial (fun hHeld => ?_)
  refine wpAnyH_take (i := 0) (v := .slice (some ⟨gs, 0, none⟩) L cap) rfl (by kernel_rfl) (by kernel_rfl) (by kernel_rfl) (fun _ _ _ h => h) (Or.inl ⟨by rfl, by intro W hSw; clear hSw; go_simp⟩) (by assumption) ?_
  try simp only [List.getElem_toArray, List.getElem_cons_zero, List.getElem_cons_succ, Act.put, List.setIfInBounds_toArray, List.set_cons_zero, List.set_cons_succ]
  refine wpAnyH_take (i := 1) (v := .int .i64 (i : Int)) rfl (by kernel_rfl) (by kernel_rfl) (by kernel_rfl) (fun _ _ _ h => h) (Or.inl ⟨by rfl, by intro W hSw; clear hSw; go_simp⟩) (by assumption) ?_
  try simp only [List.getElem_toArray, List.getElem_cons_zero, List.getElem_cons_succ, Act.put, List.setIfInBounds_toArray, List.set_cons_zero, List.set_cons_succ]
  refine wpAnyH_take (i := 2) (v := .slice (some ⟨gs, 0, none⟩) i cap) rfl (by kernel_rfl) (by kernel_rfl) (by kernel_rfl) (fun _ _ _ h => h) (Or.inl ⟨by rfl, by intro W hSw; clear hSw; go_simp⟩) (by assumption) ?_
  try simp only [List.getElem_toArray, List.getElem_cons_zero, List.getElem_cons_succ, Act.put, List.setIfInBounds_toArray, List.set_cons_zero, List.set_cons_succ]
  refine wpAnyH_take (i := 3) (v := .slice (some ⟨gs, 0, none⟩) L cap) rfl (by kernel_rfl) (by kernel_rfl) (by kernel_rfl) (fun _ _ _ h => h) (Or.inl ⟨by rfl, by intro W hSw; clear hSw; go_simp⟩) (by assumption) ?_
  try simp only [List.getElem_toArray, List.getElem_cons_zero, List.getElem_cons_succ, Act.put, List.setIfInBounds_toArray, List.set_cons_zero, List.set_cons_succ]
  refine wpAnyH_take (i := 4) (v := .int .i64 (j : Int)) rfl (by kernel_rfl) (by kernel_rfl) (by kernel_rfl) (fun _ _ _ h => h) (Or.inl ⟨by rfl, by intro W hSw; clear hSw; go_simp⟩) (by assumption) ?_
  try simp only [List.getElem_toArray, List.getElem_cons_zero, List.getElem_cons_succ, Act.put, List.setIfInBounds_toArray, List.set_cons_zero, List.set_cons_succ]
  refine wpAnyH_take (i := 5) (v := .slice (some A) (L - j) (cap - j)) rfl (by kernel_rfl) (by kernel_rfl) (by kernel_rfl) (fun _ _ _ h => h) (Or.inl ⟨by rfl, by intro W hSw; clear hSw; go_simp⟩) (by assumption) ?_
  try simp only [List.getElem_toArray, List.getElem_cons_zero, List.getElem_cons_succ, Act.put, List.setIfInBounds_toArray, List.set_cons_zero, List.set_cons_succ]
  clear hs1 hs2
  refine wpAnyH_ready (rs := [6]) (by kernel_rfl) (by simp) ?_
  refine AllReadyH.cons rfl (fun KK hKK => ?_) AllReadyH.nil
  refine step_append_room (by rfl) (.tmp 22) (.tmp 25) 150 (by rfl) 75 i0 6 Try.underlying150 HI.out.1 HI.out.2 gs 0 i cap (by rfl) A (L - j) (cap - j) (flatR R) (by rfl) S1.out S3.out S2.out HJ.out.2 S4.out ?_
  rw [Nat.zero_add, HW1.out, HJ.out.1]
  refine hKK.out _ _ trivial (fun hH7 => ?_)
  clear hKK KK
  try simp only [List.getElem_toArray, List.getElem_cons_zero, List.getElem_cons_succ, Act.put, List.setIfInBounds_toArray, List.set_cons_zero, List.set_cons_succ]
  refine wpAnyH_take (i := 7) (v := .slice (some ⟨gs, 0, none⟩) M cap) rfl (by kernel_rfl) (by kernel_rfl) (by kernel_rfl) (fun _ _ _ h => h) (Or.inl ⟨by rfl, by intro W hSw; clear hSw; go_simp⟩) (by assumption) ?_
  try simp only [List.getElem_toArray, List.getElem_cons_zero, List.getElem_cons_succ, Act.put, List.setIfInBounds_toArray, List.set_cons_zero, List.set_cons_succ]
  refine wpAnyH_done (by kernel_rfl) ?_ _
  clear hHeld hH7 HI S1 S2 S3 S4 HJ HW1
  have hcl1 := HCL1.out
  have hcl := HCL.out
  go_wp2
  go_ret
  exact ⟨rfl, HFIN.out.1, HFIN.out.2⟩
end Go.Proofs.Ythainmbapikjiaa
