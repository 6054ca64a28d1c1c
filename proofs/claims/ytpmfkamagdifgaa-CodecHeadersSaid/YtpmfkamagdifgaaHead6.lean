/- The law of headers: what it needs. -/
import Derived.Test.YtpmfkamagdifgaaHead5
import Derived.Test.YtpmfkamagdifgaaOpenRec
import Derived.Test.YtpmfkamagdifgaaSIs
namespace Go.Proofs.Ytpmfkamagdifgaa
open Go.ChangeShapes Go.WideShapes Go.RowKit Go.Deep
set_option linter.unusedVariables false
set_option linter.unusedSimpArgs false
set_option maxRecDepth 100000

theorem head_of_list (z0 z1 z2 z3 z4 z5 : Int) (h : (0 ≤ z0 ∧ z0 < 18446744073709551616) ∧ (0 ≤ z1 ∧ z1 < 18446744073709551616) ∧ I64 z2 ∧ I64 z3 ∧ I64 z4 ∧ (0 ≤ z5 ∧ z5 < 4294967296)) : IsHead [⟨.u64, 8, z0⟩, ⟨.u64, 8, z1⟩, ⟨.i64, 2, z2⟩, ⟨.i64, 2, z3⟩, ⟨.i64, 2, z4⟩, ⟨.u32, 4, z5⟩] := by
  obtain ⟨k0, k1, k2, k3, k4, k5⟩ := h
  refine ⟨rfl, fun m hm => ?_⟩
  match m, hm with
  | 0, _ => exact ⟨_, rfl, k0⟩
  | 1, _ => exact ⟨_, rfl, k1⟩
  | 2, _ => exact ⟨_, rfl, k2⟩
  | 3, _ => exact ⟨_, rfl, k3⟩
  | 4, _ => exact ⟨_, rfl, k4⟩
  | 5, _ => exact ⟨_, rfl, k5⟩
theorem cellsF_head (z0 z1 z2 z3 z4 z5 : Int) : cellsF [⟨.u64, 8, z0⟩, ⟨.u64, 8, z1⟩, ⟨.i64, 2, z2⟩, ⟨.i64, 2, z3⟩, ⟨.i64, 2, z4⟩, ⟨.u32, 4, z5⟩] = #[.int .u64 z0, .int .u64 z1, .int .i64 z2, .int .i64 z3, .int .i64 z4, .int .u32 z5] := rfl
theorem readH_isHead {s : List Nat} (hb : Bytes s) : IsHead (readH s).1 := by
  have hbO : Bytes (bO s) := by
    unfold bO
    split
    · exact bodyL_byt hb
    · intro x hx; simp at hx
  unfold readH
  split
  · exact rdH_is hbO
  · exact zeroH_is
theorem readH_err {s : List Nat} (hb : Bytes s) : (isHead s = true ∧ (readH s).2 = 0) ∨ (isHead s = false ∧ (readH s).2 = 21) := by
  cases h : isHead s with
  | true => exact .inl ⟨rfl, by rw [readH_yes hb h]⟩
  | false => exact .inr ⟨rfl, by rw [readH_no hb h]⟩
theorem writeH_err (l : List FldD) : ((writeH l).2 = 0 ∧ headOk l = true) ∨ ((writeH l).2 = 1 ∧ headOk l = false) := by
  have h : (writeH l).2 = 0 ∨ (writeH l).2 = 1 := by unfold writeH; split <;> simp
  unfold headOk
  rcases h with h | h
  · exact .inl ⟨h, by rw [h]; rfl⟩
  · exact .inr ⟨h, by rw [h]; rfl⟩
theorem writeH_bytes {l : List FldD} (hl : IsHead l) : Bytes (writeH l).1 := by
  by_cases hg : ∀ x ∈ l, u64of x.z < 256 ^ x.width
  · rw [writeH_good hg]
    refine sealL_bytes (by decide) ?_ ?_
    · intro x hx
      obtain ⟨y, _, hy⟩ := List.mem_flatMap.1 hx
      exact low_bytes _ _ x hy
    · have h1 := stS_room2 l [] hg
      have h2 : wrB l = l.flatMap fun x => low (u64of x.z) x.width := by unfold wrB; rw [h1]; rfl
      rw [← h2, wrB_length, head_widths hl]
      decide
  · obtain ⟨x, hx⟩ := Classical.not_forall.1 hg
    rw [writeH_bad ⟨x, by simpa using hx⟩]
    intro x hx
    unfold noughts at hx
    have := List.eq_of_mem_replicate hx
    omega
theorem u64of_z {w : Nat} {z : Int} (h : (0 ≤ z ∧ z < 18446744073709551616) ∨ (0 ≤ z ∧ z < 4294967296) ∨ (I64 z ∧ u64of z < 256 ^ 2)) : ((u64of z : Nat) : Int) = z := by
  unfold u64of
  unfold I64 at h
  rcases h with h | h | ⟨h, h2⟩
  · omega
  · omega
  · unfold u64of at h2
    omega
theorem readH_writeH {l : List FldD} (hl : IsHead l) (h0 : (writeH l).2 = 0) : readH (writeH l).1 = (l, 0) := by
  by_cases hg : ∀ x ∈ l, u64of x.z < 256 ^ x.width
  · obtain ⟨z0, z1, z2, z3, z4, z5, rfl, k0, k1, k2, k3, k4, k5⟩ := head_list hl
    have hb := writeH_bytes hl
    have h1 := stS_room2 _ [] hg
    have h2 : wrB [⟨.u64, 8, z0⟩, ⟨.u64, 8, z1⟩, ⟨.i64, 2, z2⟩, ⟨.i64, 2, z3⟩, ⟨.i64, 2, z4⟩, ⟨.u32, 4, z5⟩] = ([⟨.u64, 8, z0⟩, ⟨.u64, 8, z1⟩, ⟨.i64, 2, z2⟩, ⟨.i64, 2, z3⟩, ⟨.i64, 2, z4⟩, ⟨.u32, 4, z5⟩] : List FldD).flatMap fun x => low (u64of x.z) x.width := by unfold wrB; rw [h1]; rfl
    have hl26 : (wrB [⟨.u64, 8, z0⟩, ⟨.u64, 8, z1⟩, ⟨.i64, 2, z2⟩, ⟨.i64, 2, z3⟩, ⟨.i64, 2, z4⟩, ⟨.u32, 4, z5⟩]).length = 26 := by rw [wrB_length, head_widths hl]
    rw [h2] at hl26
    rw [writeH_good hg] at hb ⊢
    simp only [List.mem_cons, List.not_mem_nil, or_false, forall_eq_or_imp, forall_eq] at hg
    obtain ⟨g0, g1, g2, g3, g4, g5⟩ := hg
    generalize hB : ([⟨.u64, 8, z0⟩, ⟨.u64, 8, z1⟩, ⟨.i64, 2, z2⟩, ⟨.i64, 2, z3⟩, ⟨.i64, 2, z4⟩, ⟨.u32, 4, z5⟩] : List FldD).flatMap (fun x => low (u64of x.z) x.width) = B at *
    have hB2 : B = low (u64of z0) 8 ++ (low (u64of z1) 8 ++ (low (u64of z2) 2 ++ (low (u64of z3) 2 ++ (low (u64of z4) 2 ++ low (u64of z5) 4)))) := by
      rw [← hB]
      simp [List.flatMap_cons]
    have ho := openB_sealL (k := 6) (b := B) (by decide) (by omega)
    have hk := sealL_kind 6 B
    have hbd := sealL_body 6 B (by omega)
    have hih : isHead (sealL 6 B) = true := by unfold isHead; rw [ho, hk, hbd, hl26]; rfl
    have hry := readH_yes hb hih
    rw [hbd] at hry
    rw [hry]
    have e0 : B.take 8 = low (u64of z0) 8 := by rw [hB2, List.take_left' (low_length _ _)]
    have d0 : B.drop 8 = low (u64of z1) 8 ++ (low (u64of z2) 2 ++ (low (u64of z3) 2 ++ (low (u64of z4) 2 ++ low (u64of z5) 4))) := by rw [hB2, List.drop_left' (low_length _ _)]
    have e1 : (B.drop 8).take 8 = low (u64of z1) 8 := by rw [d0, List.take_left' (low_length _ _)]
    have d1 : B.drop 16 = low (u64of z2) 2 ++ (low (u64of z3) 2 ++ (low (u64of z4) 2 ++ low (u64of z5) 4)) := by rw [show B.drop 16 = (B.drop 8).drop 8 by rw [List.drop_drop], d0, List.drop_left' (low_length _ _)]
    have e2 : (B.drop 16).take 2 = low (u64of z2) 2 := by rw [d1, List.take_left' (low_length _ _)]
    have d2 : B.drop 18 = low (u64of z3) 2 ++ (low (u64of z4) 2 ++ low (u64of z5) 4) := by rw [show B.drop 18 = (B.drop 16).drop 2 by rw [List.drop_drop], d1, List.drop_left' (low_length _ _)]
    have e3 : (B.drop 18).take 2 = low (u64of z3) 2 := by rw [d2, List.take_left' (low_length _ _)]
    have d3 : B.drop 20 = low (u64of z4) 2 ++ low (u64of z5) 4 := by rw [show B.drop 20 = (B.drop 18).drop 2 by rw [List.drop_drop], d2, List.drop_left' (low_length _ _)]
    have e4 : (B.drop 20).take 2 = low (u64of z4) 2 := by rw [d3, List.take_left' (low_length _ _)]
    have d4 : B.drop 22 = low (u64of z5) 4 := by rw [show B.drop 22 = (B.drop 20).drop 2 by rw [List.drop_drop], d3, List.drop_left' (low_length _ _)]
    have e5 : (B.drop 22).take 4 = low (u64of z5) 4 := by rw [d4, List.take_of_length_le (by rw [low_length]; decide)]
    unfold headOf
    rw [e0, e1, e2, e3, e4, e5, le_low _ _ g0, le_low _ _ g1, le_low _ _ g2, le_low _ _ g3, le_low _ _ g4, le_low _ _ g5]
    rw [u64of_z (w := 8) (.inl k0), u64of_z (w := 8) (.inl k1), u64of_z (w := 2) (.inr (.inr ⟨k2, g2⟩)), u64of_z (w := 2) (.inr (.inr ⟨k3, g3⟩)), u64of_z (w := 2) (.inr (.inr ⟨k4, g4⟩)), u64of_z (w := 4) (.inr (.inl k5))]
  · obtain ⟨x, hx⟩ := Classical.not_forall.1 hg
    rw [writeH_bad ⟨x, by simpa using hx⟩] at h0
    exact absurd h0 (by decide)
theorem rhead_of_trod {H : Type} {enc : TypeId × Value → H} {W : World} {m : Nat} {cs : List Value} {y : DataW H × List MemPlace} (hl : cs.length = 6)
    (h : DataW.trod enc Try.prog W 0 (fun _ => true) true m 69 cs = some y) : ∃ z0 z1 z2 z3 z4 z5 : Int, cs = [.int .u64 z0, .int .u64 z1, .int .i64 z2, .int .i64 z3, .int .i64 z4, .int .u32 z5] ∧ (0 ≤ z0 ∧ z0 < 18446744073709551616) ∧ (0 ≤ z1 ∧ z1 < 18446744073709551616) ∧ I64 z2 ∧ I64 z3 ∧ I64 z4 ∧ (0 ≤ z5 ∧ z5 < 4294967296) := by
  match cs, hl with
  | [v0, v1, v2, v3, v4, v5], _ =>
    obtain ⟨ys, n', _, _, _, hyl, hf⟩ := DataW.trod_struct Try.underlying69 h
    have get : ∀ j, j < 6 → ∃ u, ys[j]? = some u := fun j hj => ⟨ys[j]'(by rw [hyl]; exact hj), List.getElem?_eq_getElem _⟩
    obtain ⟨y0, e0⟩ := get 0 (by decide)
    have f0 := (hf 0 _ rfl).trans e0
    replace f0 : DataW.trod enc Try.prog W 0 (fun _ => true) true n' 67 [v0] = some y0 := f0
    obtain ⟨z0, gz0, _, wf0⟩ := DataW.trod_int Try.underlying67 f0
    have hv0 : v0 = .int .u64 z0 := by simpa using gz0
    obtain ⟨y1, e1⟩ := get 1 (by decide)
    have f1 := (hf 1 _ rfl).trans e1
    replace f1 : DataW.trod enc Try.prog W 0 (fun _ => true) true n' 67 [v1] = some y1 := f1
    obtain ⟨z1, gz1, _, wf1⟩ := DataW.trod_int Try.underlying67 f1
    have hv1 : v1 = .int .u64 z1 := by simpa using gz1
    obtain ⟨y2, e2⟩ := get 2 (by decide)
    have f2 := (hf 2 _ rfl).trans e2
    replace f2 : DataW.trod enc Try.prog W 0 (fun _ => true) true n' 3 [v2] = some y2 := f2
    obtain ⟨z2, gz2, _, wf2⟩ := DataW.trod_int Try.underlying3 f2
    have hv2 : v2 = .int .i64 z2 := by simpa using gz2
    obtain ⟨y3, e3⟩ := get 3 (by decide)
    have f3 := (hf 3 _ rfl).trans e3
    replace f3 : DataW.trod enc Try.prog W 0 (fun _ => true) true n' 3 [v3] = some y3 := f3
    obtain ⟨z3, gz3, _, wf3⟩ := DataW.trod_int Try.underlying3 f3
    have hv3 : v3 = .int .i64 z3 := by simpa using gz3
    obtain ⟨y4, e4⟩ := get 4 (by decide)
    have f4 := (hf 4 _ rfl).trans e4
    replace f4 : DataW.trod enc Try.prog W 0 (fun _ => true) true n' 3 [v4] = some y4 := f4
    obtain ⟨z4, gz4, _, wf4⟩ := DataW.trod_int Try.underlying3 f4
    have hv4 : v4 = .int .i64 z4 := by simpa using gz4
    obtain ⟨y5, e5⟩ := get 5 (by decide)
    have f5 := (hf 5 _ rfl).trans e5
    replace f5 : DataW.trod enc Try.prog W 0 (fun _ => true) true n' 26 [v5] = some y5 := f5
    obtain ⟨z5, gz5, _, wf5⟩ := DataW.trod_int Try.underlying26 f5
    have hv5 : v5 = .int .u32 z5 := by simpa using gz5
    exact ⟨z0, z1, z2, z3, z4, z5, by simp [hv0, hv1, hv2, hv3, hv4, hv5], u64_of_wf wf0, u64_of_wf wf1, i64_of_wf wf2, i64_of_wf wf3, i64_of_wf wf4, u32_of_wf' wf5⟩
theorem open_head {H : Type} {enc : TypeId × Value → H} {W : World} {base : Nat} {v : Value} {d : DataW H} {pl : List MemPlace}
    (hok : Value.okWide Try.prog W .any base 69 v) (h : DataW.Trod enc Try.prog W 0 (fun _ => true) true 69 v d pl) : ∃ z0 z1 z2 z3 z4 z5 : Int, v = .agg #[.int .u64 z0, .int .u64 z1, .int .i64 z2, .int .i64 z3, .int .i64 z4, .int .u32 z5] ∧ (0 ≤ z0 ∧ z0 < 18446744073709551616) ∧ (0 ≤ z1 ∧ z1 < 18446744073709551616) ∧ I64 z2 ∧ I64 z3 ∧ I64 z4 ∧ (0 ≤ z5 ∧ z5 < 4294967296) := by
  obtain ⟨cs, rfl, hsz⟩ : ∃ cs, v = .agg cs ∧ cs.size = 6 := by
    unfold Value.okWide at hok
    rw [Try.underlying69] at hok
    obtain ⟨cs, h1, h2, _⟩ := hok
    exact ⟨cs, h1, h2.trans (by kernel_rfl)⟩
  obtain ⟨fuel, hf⟩ := h
  obtain ⟨l⟩ := cs
  obtain ⟨z0, z1, z2, z3, z4, z5, e, k⟩ := rhead_of_trod (cs := l) (by simpa using hsz) (by simpa [Value.cells] using hf)
  subst e
  exact ⟨z0, z1, z2, z3, z4, z5, rfl, k⟩
end Go.Proofs.Ytpmfkamagdifgaa
