/- Rows moved to the left and cut off; slices.Delete at processes. slices.Delete at processes, by its walk. -/
import Derived.Test.YtebkkbmplndcpaaGenfgkpml
import Derived.Deep.RegionLaw
import Derived.Lib.SliceRun
namespace Go.Proofs.Ytebkkbmplndcpaa
open Go.RowKit Go.Sort
set_option linter.unusedVariables false
set_option linter.unusedSimpArgs false
set_option maxRecDepth 100000

theorem set_takeT {r : List Value} {j : Nat} (h : j < r.length) (v : Value) (vs : List Value) : (r.set j v).take (j + 1) ++ vs ++ (r.set j v).drop (j + 1 + vs.length) = r.take j ++ (v :: vs) ++ r.drop (j + (v :: vs).length) := by
  have e1 : (r.set j v).take (j + 1) = r.take j ++ [v] := by
    rw [List.take_add_one, List.take_set_of_le (Nat.le_refl _), List.getElem?_set_self h]
    rfl
  have e2 : (r.set j v).drop (j + 1 + vs.length) = r.drop (j + (v :: vs).length) := by
    rw [List.drop_set_of_lt (by omega), List.length_cons]
    congr 1
    omega
  rw [e1, e2]
  simp
theorem rows_cellsT {B : Nat} {e : TypeId} {k gs n cap i : Nat} : ∀ (vs : List Value) (j : Nat) (w : World) (l : List (List Value)) (r : List Value), OwnsR' B w e k (.slice (some ⟨gs, 0, none⟩) n cap) l → l.length = n → l[i]? = some r → j + vs.length ≤ k →
    OwnsR' B (w.setCells gs (i * k + j) vs) e k (.slice (some ⟨gs, 0, none⟩) n cap) (l.set i (r.take j ++ vs ++ r.drop (j + vs.length))) ∧ w.grownBy (w.setCells gs (i * k + j) vs) (some gs)
  | [], j, w, l, r, h, hn, hr, hj => by
    have e : l.set i (r.take j ++ [] ++ r.drop (j + ([] : List Value).length)) = l := by
      rw [List.append_nil, List.length_nil, Nat.add_zero, List.take_append_drop]
      apply List.ext_getElem?
      intro m
      by_cases h9 : i = m
      · subst h9; rw [List.getElem?_set_self (List.getElem?_eq_some_iff.1 hr).1, hr]
      · rw [List.getElem?_set_ne h9]
    rw [e]
    exact ⟨h, grown_same _ _⟩
  | v :: vs, j, w, l, r, h, hn, hr, hj => by
    have hrl : r.length = k := h.1 r (List.mem_of_getElem? hr)
    rw [List.length_cons] at hj
    have s := h.stored hn hr (i := j) (by omega) v
    have hi := (List.getElem?_eq_some_iff.1 hr).1
    have ih := rows_cellsT vs (j + 1) _ (l.set i (r.set j v)) (r.set j v) s.1 (by rw [List.length_set]; exact hn) (List.getElem?_set_self hi) (by omega)
    rw [List.set_set, set_takeT (by omega)] at ih
    exact ⟨ih.1, grown_transT s.2 ih.2⟩
theorem setCells_append (b : Nat) : ∀ (xs ys : List Value) (o : Nat) (w : World), w.setCells b o (xs ++ ys) = (w.setCells b o xs).setCells b (o + xs.length) ys
  | [], ys, o, w => rfl
  | x :: xs, ys, o, w => by
    show (w.setCell ⟨b, o, none⟩ x).setCells b (o + 1) (xs ++ ys) = ((w.setCell ⟨b, o, none⟩ x).setCells b (o + 1) xs).setCells b (o + (x :: xs).length) ys
    rw [setCells_append b xs ys (o + 1), List.length_cons, show o + 1 + xs.length = o + (xs.length + 1) by omega]
/-- Rows stored one behind the other. -/
theorem rows_many {B : Nat} {e : TypeId} {k gs n cap : Nat} : ∀ (R : List (List Value)) (i : Nat) (w : World) (l : List (List Value)), OwnsR' B w e k (.slice (some ⟨gs, 0, none⟩) n cap) l → l.length = n → i + R.length ≤ n → (∀ p ∈ R, p.length = k) →
    OwnsR' B (w.setCells gs (i * k) (flatR R)) e k (.slice (some ⟨gs, 0, none⟩) n cap) (l.take i ++ R ++ l.drop (i + R.length)) ∧ w.grownBy (w.setCells gs (i * k) (flatR R)) (some gs)
  | [], i, w, l, h, hn, hi, hR => by
    have e : l.take i ++ [] ++ l.drop (i + ([] : List (List Value)).length) = l := by rw [List.append_nil, List.length_nil, Nat.add_zero, List.take_append_drop]
    rw [e]
    exact ⟨h, grown_same _ _⟩
  | p :: R, i, w, l, h, hn, hi, hR => by
    rw [List.length_cons] at hi
    obtain ⟨r, hr⟩ : ∃ r, l[i]? = some r := ⟨_, List.getElem?_eq_getElem (by omega)⟩
    have hp : p.length = k := hR p (by simp)
    have hrl : r.length = k := h.1 r (List.mem_of_getElem? hr)
    have s := rows_cellsT (i := i) p 0 w l r h hn hr (by omega)
    rw [List.take_zero, List.nil_append, Nat.zero_add, List.drop_of_length_le (by omega), List.append_nil, Nat.add_zero] at s
    have ih := rows_many R (i + 1) _ (l.set i p) s.1 (by rw [List.length_set]; exact hn) (by omega) (fun q hq => hR q (by simp [hq]))
    have ef : flatR (p :: R) = p ++ flatR R := rfl
    rw [ef, setCells_append, hp, show i * k + k = (i + 1) * k by rw [Nat.succ_mul]]
    have el : (l.set i p).take (i + 1) ++ R ++ (l.set i p).drop (i + 1 + R.length) = l.take i ++ (p :: R) ++ l.drop (i + (p :: R).length) := by
      have e1 : (l.set i p).take (i + 1) = l.take i ++ [p] := by
        rw [List.take_add_one, List.take_set_of_le (Nat.le_refl _), List.getElem?_set_self (by omega)]
        rfl
      have e2 : (l.set i p).drop (i + 1 + R.length) = l.drop (i + (p :: R).length) := by
        rw [List.drop_set_of_lt (by omega), List.length_cons]
        congr 1
        omega
      rw [e1, e2]
      simp
    rw [el] at ih
    exact ⟨ih.1, grown_transT s.2 ih.2⟩
theorem flatR_take {k : Nat} : ∀ (l : List (List Value)) (m : Nat), (∀ p ∈ l, p.length = k) → flatR (l.take m) = (flatR l).take (m * k)
  | [], m, _ => by simp [flatR]
  | p :: l, 0, _ => by simp [flatR]
  | p :: l, m + 1, h => by
    have hp : p.length = k := h p (by simp)
    have ih := flatR_take l m (fun q hq => h q (by simp [hq]))
    have e1 : flatR ((p :: l).take (m + 1)) = p ++ flatR (l.take m) := rfl
    have e2 : flatR (p :: l) = p ++ flatR l := rfl
    have hpk : p.take (m * k + k) = p := List.take_of_length_le (by omega)
    rw [e1, e2, ih, Nat.succ_mul, List.take_append, hp, hpk, show m * k + k - k = m * k by omega]
/-- A shorter slice of the same rows. -/
theorem OwnsR'.shrink {B : Nat} {w : World} {e : TypeId} {k gs n cap : Nat} {l : List (List Value)} (h : OwnsR' B w e k (.slice (some ⟨gs, 0, none⟩) n cap) l) (hn : l.length = n) {m : Nat} (hm : m ≤ n) : OwnsR' B w e k (.slice (some ⟨gs, 0, none⟩) m cap) (l.take m) := by
  obtain ⟨h0, h1, ⟨hv, _⟩ | ⟨g', cap', cur, hv, hB, hg, hc, hmx, hs, ht⟩⟩ := h
  · cases hv
  · cases hv
    have hlm : (l.take m).length = m := by rw [List.length_take]; omega
    refine ⟨fun p hp => h0 p (List.mem_of_mem_take hp), by rw [hlm, flatR_take l m h0, List.length_take, flatR_length h0]; have := Nat.mul_le_mul_right k (show m ≤ l.length by omega); omega, .inr ⟨gs, cap, cur, by rw [hlm], hB, hg, by omega, hmx, hs, ?_⟩⟩
    rw [hlm, flatR_take l m h0, ← ht, List.take_take]
    congr 1
    have := Nat.mul_le_mul_right k (show m ≤ l.length by omega)
    omega
/-- A cell behind the rows, stored. -/
theorem OwnsR'.spare {B : Nat} {w : World} {e : TypeId} {k gs n cap : Nat} {l : List (List Value)} (h : OwnsR' B w e k (.slice (some ⟨gs, 0, none⟩) n cap) l) (hn : l.length = n) {j : Nat} (hj : n * k ≤ j) (x : Value) : OwnsR' B (w.setCell ⟨gs, j, none⟩ x) e k (.slice (some ⟨gs, 0, none⟩) n cap) l := by
  obtain ⟨h0, h1, ⟨hv, _⟩ | ⟨g', cap', cur, hv, hB, hg, hc, hmx, hs, ht⟩⟩ := h
  · cases hv
  · cases hv
    refine ⟨h0, h1, .inr ⟨gs, cap, cur.setIfInBounds j x, rfl, hB, heap_setCell_same w gs j _ _ x hg, hc, hmx, by rw [Array.size_setIfInBounds]; exact hs, ?_⟩⟩
    rw [← ht, Array.toList_setIfInBounds, List.take_set_of_le (by omega)]
theorem OwnsR'.spares {B : Nat} {e : TypeId} {k gs n cap : Nat} {l : List (List Value)} (hn : l.length = n) : ∀ (vs : List Value) (o : Nat) (w : World), OwnsR' B w e k (.slice (some ⟨gs, 0, none⟩) n cap) l → n * k ≤ o → OwnsR' B (w.setCells gs o vs) e k (.slice (some ⟨gs, 0, none⟩) n cap) l ∧ w.grownBy (w.setCells gs o vs) (some gs)
  | [], o, w, h, ho => ⟨h, grown_same _ _⟩
  | v :: vs, o, w, h, ho => by
    have s := h.spare hn ho v
    have ih := OwnsR'.spares hn vs (o + 1) _ s (by omega)
    exact ⟨ih.1, grown_transT (grown_setCellT w ⟨gs, o, none⟩ v) ih.2⟩
/-- 'clear' of a slice of rows. -/
theorem run_clear_rows {P : Program} (w : World) (t e ty : TypeId) (z : Value) (ht : P.underlying t = some (.slice e)) (hv : ∀ w, (zeroValue e).run P w = .ok z w) (b o n c : Nat) (hn : 0 < n) (zs : List Value) (hz : (Builtin.zeroCells z.cells n).toList = zs) (hone : ∀ v ∈ zs, v.oneCell' = true)
    (hc : ∀ j, j < zs.length → (w.cell? ⟨b, o + j, none⟩).isSome = true) (hf : ∀ j, j < zs.length → w.frozen? ⟨b, o + j, none⟩ = false) :
    (Builtin.clear_ #[t] ty #[.slice (some ⟨b, o, none⟩) n c]).run P w = .ok (.tuple #[]) (w.setCells b o zs) := by
  have hst := run_storeCells_cells (P := P) b o zs 0 w (by simpa using hc) (by simpa using hf) hone
  simp only [Nat.add_zero] at hst
  obtain ⟨m, rfl⟩ : ∃ m, n = m + 1 := ⟨n - 1, by omega⟩
  simp [Builtin.clear_, run_underlying ht, hv, hz, hst]
end Go.Proofs.Ytebkkbmplndcpaa

namespace Go.Proofs.Ytebkkbmplndcpaa
open Go.RowKit Go.Sort
set_option linter.unusedVariables false
set_option linter.unusedSimpArgs false
set_option maxRecDepth 100000

theorem zero_proc (W : World) : (zeroValue 40).run Try.prog W = .ok (.agg #[.int .i64 0, .int .i64 0, .int .i64 0, .int .i64 0, .int .i64 0, .bool false]) W := by kernel_rfl
theorem add_noneT (b off i : Nat) : (⟨b, off, none⟩ : Addr).add i = ⟨b, off + i, none⟩ := by unfold Addr.add; split <;> simp_all
theorem size_procT (W : World) : (Go.sizeOf 40).run Try.prog W = .ok 6 W := by kernel_rfl
theorem slice_low (gs L cap j : Nat) (hj : j ≤ L) (hL : L ≤ cap) (W : World) : (Instr.sliceAt 75 (.slice (some ⟨gs, 0, none⟩) L cap) (some (.int .i64 (j : Int))) none none).run Try.prog W = .ok (.slice (some (if cap = j then ⟨gs, 0, none⟩ else ⟨gs, j * 6, none⟩)) (L - j) (cap - j)) W := by
  have ht : Try.prog.underlying 75 = some (.slice (Try.prog.elem 75)) := by kernel_rfl
  have he : Try.prog.elem 75 = 40 := by kernel_rfl
  rw [run_sliceAt_slice _ _ _ _ _ _ ht, run_slice_l _ _ _ _ _ ht .i64 _ (by omega) (by omega), he, size_procT]
  simp only [Result.andThen_ok, sliced, Int.toNat_natCast]
  by_cases h : cap = j
  · simp [h]
  · simp [h, Addr.add]
    try (intro h0; exact h0.symm)
theorem slice_high (gs L cap i : Nat) (hi : i ≤ cap) (hc : 0 < cap) (W : World) : (Instr.sliceAt 75 (.slice (some ⟨gs, 0, none⟩) L cap) none (some (.int .i64 (i : Int))) none).run Try.prog W = .ok (.slice (some ⟨gs, 0, none⟩) i cap) W := by
  have ht : Try.prog.underlying 75 = some (.slice (Try.prog.elem 75)) := by kernel_rfl
  have he : Try.prog.elem 75 = 40 := by kernel_rfl
  rw [run_sliceAt_slice _ _ _ _ _ _ ht, run_slice_h _ _ _ _ _ ht .i64 _ (by omega) (by omega), he, size_procT]
  simp only [Result.andThen_ok, sliced, Int.toNat_natCast, Nat.sub_zero]
  rw [if_neg (by omega)]
  simp [Addr.add]
def zero6 : List Value := [.int .i64 0, .int .i64 0, .int .i64 0, .int .i64 0, .int .i64 0, .bool false]
set_option maxHeartbeats 1600000 in
theorem tdelete_is {B : Nat} {w : World} {gs cap L : Nat} {l : List ProcD} (h : OwnsR' B w 40 6 (.slice (some ⟨gs, 0, none⟩) L cap) (procsV l)) (hl : l.length = L) (hL : L ≤ 16) (i j : Nat) (hj : j = i + 1) (hi : i < L) :
    Calls Try.prog 75 #[.slice (some ⟨gs, 0, none⟩) L cap, .int .i64 (i : Int), .int .i64 (j : Int)] w fun e w' => e = .returned (.slice (some ⟨gs, 0, none⟩) (L - 1) cap) ∧ OwnsR' B w' 40 6 (.slice (some ⟨gs, 0, none⟩) (L - 1) cap) (procsV (l.eraseIdx i)) ∧ w.grownBy w' (some gs) := by
  have hpl : (procsV l).length = L := by rw [procsV_length]; exact hl
  obtain ⟨a9, c9, e9, hrd, hlc, hcm⟩ := h.reads
  obtain ⟨rfl, -, rfl⟩ := Value.slice.inj e9
  rw [hpl] at hlc
  obtain ⟨i0, hi0, hz0, hz1, hz2⟩ := info_parts info_proc
  have hx0 : (0 : Int) ≤ (i : Int) := by omega
  have hx1 : (i : Int) ≤ (j : Int) := by omega
  have hx2 : (j : Int) ≤ (L : Int) := by omega
  have hx3 : (L : Int) ≤ (cap : Int) := by omega
  have hx4 : ((i : Int) == (j : Int)) = false := by simp; omega
  have hcapm : (cap : Int) ≤ 9223372036854775807 := by unfold maxLen at hcm; omega
  -- the rows that are moved
  obtain ⟨R, hR⟩ : ∃ R, (procsV l).drop j = R := ⟨_, rfl⟩
  have hRl : R.length = L - j := by rw [← hR, List.length_drop, hpl]
  have hRk : ∀ p ∈ R, p.length = 6 := fun p hp => procs_rows l p (by rw [← hR] at hp; exact List.mem_of_mem_drop hp)
  have hRo : OneRows R := fun p hp => procsV_one l p (by rw [← hR] at hp; exact List.mem_of_mem_drop hp)
  have hw2 : OwnsR' B w.drew 40 6 (.slice (some ⟨gs, 0, none⟩) L cap) (procsV l) := h.below (below_drew w)
  have hmany := rows_many R i w.drew (procsV l) hw2 hpl (by rw [hRl]; omega) hRk
  have hcut := hmany.1.shrink (by rw [List.length_append, List.length_append, List.length_take, List.length_drop, hpl, hRl]; omega) (show L - 1 ≤ L by omega)
  have hrows : ((procsV l).take i ++ R ++ (procsV l).drop (i + R.length)).take (L - 1) = procsV (l.eraseIdx i) := by
    rw [List.take_append_of_le_length (by rw [List.length_append, List.length_take, hpl, hRl]; omega), List.take_of_length_le (by rw [List.length_append, List.length_take, hpl, hRl]; omega), ← hR, List.eraseIdx_eq_take_drop_succ, hj]
    unfold procsV
    rw [List.map_append, List.map_take, List.map_drop]
  rw [hrows] at hcut
  obtain ⟨W1, hW1⟩ : ∃ x, w.drew.setCells gs (i * 6) (flatR R) = x := ⟨_, rfl⟩
  rw [hW1] at hmany hcut
  have hle : (procsV (l.eraseIdx i)).length = L - 1 := by rw [procsV_length, List.length_eraseIdx_of_lt (by omega), hl]
  have hsp := hcut.spares hle zero6 ((L - 1) * 6) _ (Nat.le_refl _)
  have hfree := fun q => hmany.1.frozen (by rw [List.length_append, List.length_append, List.length_take, List.length_drop, hpl, hRl]; omega) q
  have hsome : ∀ q, q < 6 → (W1.cell? ⟨gs, (L - 1) * 6 + q, none⟩).isSome = true := fun q hq => by
    obtain ⟨r, hr⟩ : ∃ r, ((procsV l).take i ++ R ++ (procsV l).drop (i + R.length))[L - 1]? = some r := ⟨_, List.getElem?_eq_getElem (by rw [List.length_append, List.length_append, List.length_take, List.length_drop, hpl, hRl]; omega)⟩
    have hrl := hmany.1.1 r (List.mem_of_getElem? hr)
    rw [hmany.1.head.2.2 (L - 1) r hr q (r[q]'(by omega)) (List.getElem?_eq_getElem _)]
    rfl
  have hcl : ∀ ty, (Builtin.clear_ #[75] ty #[.slice (some ⟨gs, (L - 1) * 6, none⟩) 1 (cap - (L - 1))]).run Try.prog W1 = .ok (.tuple #[]) (W1.setCells gs ((L - 1) * 6) zero6) := fun ty =>
    run_clear_rows W1 _ 40 ty _ Try.underlying75 zero_proc gs ((L - 1) * 6) 1 _ (by decide) zero6 (by kernel_rfl) (by intro v hv; simp [zero6] at hv; rcases hv with rfl | rfl <;> rfl) (fun q hq => hsome q hq) (fun q _ => hfree _)
  obtain ⟨W2, hW2⟩ : ∃ x, W1.setCells gs ((L - 1) * 6) zero6 = x := ⟨_, rfl⟩
  rw [hW2] at hsp hcl
  have HFIN : Hid (OwnsR' B W2 40 6 (.slice (some ⟨gs, 0, none⟩) (L - 1) cap) (procsV (l.eraseIdx i)) ∧ w.grownBy W2 (some gs)) := Lib.hid ⟨hsp.1, grown_transT (grown_belowT (below_drew w) hmany.2) hsp.2⟩
  -- the append
  obtain ⟨A, hA⟩ : ∃ A : Addr, (if cap = j then (⟨gs, 0, none⟩ : Addr) else ⟨gs, j * 6, none⟩) = A := ⟨_, rfl⟩
  have hs1 := fun W => slice_high gs L cap i (by omega) (by omega) W
  have hs2 := fun W => slice_low gs L cap j (by omega) (by omega) W
  rw [hA] at hs2
  have S1 : Hid ((flatR R).length = (L - j) * 6) := Lib.hid (by rw [flatR_length hRk, hRl])
  have S2 : Hid (∀ u ∈ flatR R, u.oneCell' = true) := Lib.hid (OneRows.flat hRo)
  have S3 : Hid (∀ t u, (flatR R)[t]? = some u → w.drew.cell? (A.add t) = some u) := Lib.hid (fun t u hu => by
    have htl := (List.getElem?_eq_some_iff.1 hu).1
    rw [flatR_length hRk, hRl] at htl
    have hne : cap ≠ j := by rintro rfl; omega
    rw [← hA, if_neg hne]
    rw [add_noneT]
    have hq : t / 6 < R.length := by rw [hRl]; omega
    obtain ⟨r, hr⟩ : ∃ r, R[t / 6]? = some r := ⟨_, List.getElem?_eq_getElem hq⟩
    have h1 : (flatR R)[t / 6 * 6 + t % 6]? = r[t % 6]? := flatR_get hRk hr (Nat.mod_lt _ (by decide))
    rw [show t / 6 * 6 + t % 6 = t by omega, hu] at h1
    have h2 : (procsV l)[j + t / 6]? = some r := by rw [← hR, List.getElem?_drop] at hr; exact hr
    have h3 := hw2.head.2.2 (j + t / 6) r h2 (t % 6) u h1.symm
    rw [show (j + t / 6) * 6 + t % 6 = j * 6 + t by omega] at h3
    exact h3)
  have S4 : Hid (∀ t, t < (flatR R).length → (w.drew.cell? ⟨gs, 0 + i * 6 + t, none⟩).isSome = true ∧ w.drew.frozen? ⟨gs, 0 + i * 6 + t, none⟩ = false) := Lib.hid (fun t ht => by
    rw [S1.out] at ht
    rw [Nat.zero_add]
    refine ⟨?_, hw2.frozen hpl _⟩
    obtain ⟨r, hr⟩ : ∃ r, (procsV l)[i + t / 6]? = some r := ⟨_, List.getElem?_eq_getElem (by rw [hpl]; omega)⟩
    have hrl := procs_rows l r (List.mem_of_getElem? hr)
    have h3 := hw2.head.2.2 (i + t / 6) r hr (t % 6) (r[t % 6]'(by rw [hrl]; exact Nat.mod_lt _ (by decide))) (List.getElem?_eq_getElem _)
    rw [show (i + t / 6) * 6 + t % 6 = i * 6 + t by omega] at h3
    rw [h3]; rfl)
  have HI := Lib.hid (And.intro hi0 hz1)
  have HJ : Hid (i + (L - j) = L - 1 ∧ i + (L - j) ≤ cap) := Lib.hid ⟨by omega, by omega⟩
  have hy1 : ((L - 1 : Nat) : Int) ≤ (L : Int) := by omega
  have hy2 : (0 : Int) ≤ ((L - 1 : Nat) : Int) := by omega
  have hcl1 : ∀ W, (Instr.sliceAt 75 (.slice (some ⟨gs, 0, none⟩) (L - 1) cap) (some (.int .i64 ((L - 1 : Nat) : Int))) (some (.int .i64 (L : Int))) none).run Try.prog W = .ok (.slice (some ⟨gs, (L - 1) * 6, none⟩) 1 (cap - (L - 1))) W := fun W => by
    have ht : Try.prog.underlying 75 = some (.slice (Try.prog.elem 75)) := by kernel_rfl
    have he : Try.prog.elem 75 = 40 := by kernel_rfl
    rw [run_sliceAt_slice _ _ _ _ _ _ ht, run_slice_lh _ _ _ _ _ ht .i64 .i64 _ _ (by omega) (by omega) (by omega), he, size_procT]
    simp only [Result.andThen_ok, sliced, Int.toNat_natCast]
    rw [if_neg (by omega), show L - (L - 1) = 1 by omega]
    simp only [Option.map_some, add_noneT, Nat.zero_add]
  have HCL1 := Lib.hid hcl1
  have HCL := Lib.hid hcl
  have HW1 := Lib.hid hW1
  obtain ⟨M, hM⟩ : ∃ x, L - 1 = x := ⟨_, rfl⟩
  rw [hM] at HJ HCL1 HCL HFIN hy1 hy2 ⊢
  have hb1 : i ≤ cap := by omega
  have hb2 : j ≤ L := by omega
  have hb3 : ¬ cap < i := by omega
  have hb4 : ¬ L < j := by omega
  have hb5 : (i : Int) ≤ (cap : Int) := by omega
  have hb6 : ¬ L = i := by omega
  clear h hl hpl hj hi hrd hlc hcm e9 hR hRl hRk hRo hw2 hmany hcut hrows hW1 hle hsp hfree hsome hcl hW2 hA hi0 hz0 hz1 hz2 hL hcl1 hM
  go_enter Try.func75, Try.ntmps75
  go_wp2_with fail
  refine wp_region_held_drew (S := fun W => True) (by kernel_rfl) trivial (fun hHeld => ?_)
  refine wpAnyH_take (i := 0) (v := .slice (some ⟨gs, 0, none⟩) L cap) rfl (by kernel_rfl) (by kernel_rfl) (by kernel_rfl) (fun _ _ _ h => h) (Or.inl ⟨by rfl, by intro W hSw; clear hSw; go_simp⟩) (by assumption) ?_
  try simp only [List.getElem_toArray, List.getElem_cons_zero, List.getElem_cons_succ, Act.put, List.setIfInBounds_toArray, List.set_cons_zero, List.set_cons_succ]
  refine wpAnyH_take (i := 1) (v := .int .i64 (i : Int)) rfl (by kernel_rfl) (by kernel_rfl) (by kernel_rfl) (fun _ _ _ h => h) (Or.inl ⟨by rfl, by intro W hSw; clear hSw; go_simp⟩) (by assumption) ?_
  try simp only [List.getElem_toArray, List.getElem_cons_zero, List.getElem_cons_succ, Act.put, List.setIfInBounds_toArray, List.set_cons_zero, List.set_cons_succ]
  refine wpAnyH_take (i := 2) (v := .slice (some ⟨gs, 0, none⟩) i cap) rfl (by kernel_rfl) (by kernel_rfl) (by kernel_rfl) (fun _ _ _ h => h) (Or.inl ⟨by rfl, by intro W hSw; clear hSw; go_simp⟩) (by assumption) ?_
  try simp only [List.getElem_toArray, List.getElem_cons_zero, List.getElem_cons_succ, Act.put, List.setIfInBounds_toArray, List.set_cons_zero, List.set_cons_succ]
  refine wpAnyH_take (i := 3) (v := .slice (some ⟨gs, 0, none⟩) L cap) rfl (by kernel_rfl) (by kernel_rfl) (by kernel_rfl) (fun _ _ _ h => h) (Or.inl ⟨by rfl, by intro W hSw; clear hSw; go_simp⟩) (by assumption) ?_
  try simp only [List.getElem_toArray, List.getElem_cons_zero, List.getElem_cons_succ, Act.put, List.setIfInBounds_toArray, List.set_cons_zero, List.set_cons_succ]
  refine wpAnyH_take (i := 4) (v := .int .i64 (j : Int)) rfl (by kernel_rfl) (by kernel_rfl) (by kernel_rfl) (fun _ _ _ h => h) (Or.inl ⟨by rfl, by intro W hSw; clear hSw; go_simp⟩) (by assumption) ?_
  try simp only [List.getElem_toArray, List.getElem_cons_zero, List.getElem_cons_succ, Act.put, List.setIfInBounds_toArray, List.set_cons_zero, List.set_cons_succ]
  refine wpAnyH_take (i := 5) (v := .slice (some A) (L - j) (cap - j)) rfl (by kernel_rfl) (by kernel_rfl) (by kernel_rfl) (fun _ _ _ h => h) (Or.inl ⟨by rfl, by intro W hSw; clear hSw; go_simp⟩) (by assumption) ?_
  try simp only [List.getElem_toArray, List.getElem_cons_zero, List.getElem_cons_succ, Act.put, List.setIfInBounds_toArray, List.set_cons_zero, List.set_cons_succ]
  clear hs1 hs2
  refine wpAnyH_ready (rs := [6]) (by kernel_rfl) (by simp) ?_
  refine AllReadyH.cons rfl (fun KK hKK => ?_) AllReadyH.nil
  refine step_append_room (by rfl) (.tmp 22) (.tmp 25) 75 (by rfl) 40 i0 6 Try.underlying75 HI.out.1 HI.out.2 gs 0 i cap (by rfl) A (L - j) (cap - j) (flatR R) (by rfl) S1.out S3.out S2.out HJ.out.2 S4.out ?_
  rw [Nat.zero_add, HW1.out, HJ.out.1]
  refine hKK.out _ _ trivial (fun hH7 => ?_)
  clear hKK KK
  try simp only [List.getElem_toArray, List.getElem_cons_zero, List.getElem_cons_succ, Act.put, List.setIfInBounds_toArray, List.set_cons_zero, List.set_cons_succ]
  refine wpAnyH_take (i := 7) (v := .slice (some ⟨gs, 0, none⟩) M cap) rfl (by kernel_rfl) (by kernel_rfl) (by kernel_rfl) (fun _ _ _ h => h) (Or.inl ⟨by rfl, by intro W hSw; clear hSw; go_simp⟩) (by assumption) ?_
  try simp only [List.getElem_toArray, List.getElem_cons_zero, List.getElem_cons_succ, Act.put, List.setIfInBounds_toArray, List.set_cons_zero, List.set_cons_succ]
  refine wpAnyH_done (by kernel_rfl) ?_ _
  clear hHeld hH7 HI S1 S2 S3 S4 HJ HW1
  have hcl1 := HCL1.out
  have hcl := HCL.out
  go_wp2
  go_ret
  exact ⟨rfl, HFIN.out.1, HFIN.out.2⟩
end Go.Proofs.Ytebkkbmplndcpaa
