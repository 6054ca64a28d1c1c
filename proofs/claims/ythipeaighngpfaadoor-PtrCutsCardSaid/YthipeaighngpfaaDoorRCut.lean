/- Bytes, block by block: the document's walk. -/
import Derived.Test.YthipeaighngpfaaDoorCut
namespace Go.Proofs.YthipeaighngpfaaDoor
open Go.RowKit Go.Sort
set_option linter.unusedVariables false
set_option linter.unusedSimpArgs false
set_option maxRecDepth 100000

theorem cutR_new {a i : Int} (ha : 0 ≤ a) (h : a ≤ i) (hs : ¬ (a < i ∧ (i - 1) / 128 = i / 128)) : cutR a (i + 1) = cutR a i ++ [[i / 128, i % 128, i % 128 + 1]] := by
  unfold cutR; rw [cutL_new ha h hs, List.map_append]; rfl
theorem cutR_more {a i : Int} (ha : 0 ≤ a) (h : a < i) (hs : (i - 1) / 128 = i / 128) {M : Nat} (hM : cutN a i = M + 1) :
    ∃ r : List Int, (cutR a i)[M]? = some r ∧ r[0]?.getD 0 = (i - 1) / 128 ∧ r[2]?.getD 0 = (i - 1) % 128 + 1 ∧ cutR a (i + 1) = (cutR a i).set M (r.set 2 ((i - 1) % 128 + 1 + 1)) := by
  have h1 := cutP_last ha h
  rw [hM, Nat.add_sub_cancel] at h1
  refine ⟨_, cutR_get (j := M) (by omega), ?_, ?_, ?_⟩
  · rw [h1]; rfl
  · rw [h1]; rfl
  · have h2 := cutL_more ha h hs
    rw [hM, Nat.add_sub_cancel] at h2
    unfold cutR
    rw [h2, List.map_set, h1]
    rfl
theorem cutR_last {a i : Int} (ha : 0 ≤ a) (h : a < i) {M : Nat} (hM : cutN a i = M + 1) : ∃ r : List Int, (cutR a i)[M]? = some r ∧ r[0]?.getD 0 = (i - 1) / 128 := by
  have h1 := cutP_last ha h
  rw [hM, Nat.add_sub_cancel] at h1
  exact ⟨_, cutR_get (j := M) (by omega), by rw [h1]; rfl⟩
theorem eqx_ {x y : Int} (h : x ≠ y) : (x == y) = false := by simp [h]
theorem cutN_pos {a i : Int} (h : a < i) : ∃ M, cutN a i = M + 1 := by
  refine ⟨cutN a i - 1, ?_⟩
  have : 0 < cutN a i := by unfold cutN; rw [if_pos h]; omega
  omega

set_option maxHeartbeats 3200000 in
theorem rcut_is (a n : Int) (w : World) (ha : I64 a) (hn : I64 n) : Calls Tryd.prog 24 #[.int .i64 a, .int .i64 n] w (CutPost 48 a n w) := by
  have fin : ∀ (v : Value) (w' : World) (x : Int), cutE a n = x → OwnsR w.heap.size w' 48 3 v (cutRows a n) → Below w.heap.size w w' → CutPost 48 a n w (.returned (.tuple #[v, .int .i64 x])) w' := fun v w' x h0 h1 h2 => ⟨v, by rw [h0], h1, h2⟩
  have HF := Lib.hid fin
  clear fin
  obtain ⟨a1, a2⟩ := ha
  obtain ⟨n1, n2⟩ := hn
  by_cases h1 : a < 0
  · have E := Lib.hid (cutE_neg (a := a) (n := n) (.inl h1))
    go_enter Tryd.func24, Tryd.ntmps24
    go_wp2
    go_ret2
    exact HF.out _ _ _ E.out (by rw [cutRows_none (by rw [E.out]; decide)]; exact OwnsR.nil _ _ _ _) (Below.refl _ _)
  · by_cases h2 : n < 0
    · have E := Lib.hid (cutE_neg (a := a) (n := n) (.inr h2))
      go_enter Tryd.func24, Tryd.ntmps24
      go_wp2
      go_ret2
      exact HF.out _ _ _ E.out (by rw [cutRows_none (by rw [E.out]; decide)]; exact OwnsR.nil _ _ _ _) (Below.refl _ _)
    · by_cases h3 : 136192 < a
      · have E := Lib.hid (cutE_big (a := a) (n := n) (by omega) (by omega) (by omega))
        go_enter Tryd.func24, Tryd.ntmps24
        go_wp2
        go_ret2
        exact HF.out _ _ _ E.out (by rw [cutRows_none (by rw [E.out]; decide)]; exact OwnsR.nil _ _ _ _) (Below.refl _ _)
      · by_cases h4 : 136192 - a < n
        · have E := Lib.hid (cutE_big (a := a) (n := n) (by omega) (by omega) (by omega))
          go_enter Tryd.func24, Tryd.ntmps24
          go_wp2
          go_ret2
          exact HF.out _ _ _ E.out (by rw [cutRows_none (by rw [E.out]; decide)]; exact OwnsR.nil _ _ _ _) (Below.refl _ _)
        · have E := Lib.hid (cutE_ok (a := a) (n := n) (by omega) (by omega) (by omega))
          have ha0 : 0 ≤ a := by omega
          have hn0 : 0 ≤ n := by omega
          have hae : a + n ≤ 136192 := by omega
          have ER : Hid (cutRows a n = cutR a (a + n)) := cutRows_ok E.out
          have hcn : cutR a a = [] := by unfold cutR; rw [cutL_none (Int.le_refl a)]; rfl
          have HCN := Lib.hid hcn
          clear hcn
          go_enter Tryd.func24, Tryd.ntmps24
          go_wp2
          go_loopw [6, 7] (fun v p wr => ∃ (i : Int) (x : Value), a ≤ i ∧ i ≤ a + n ∧ p = .int .i64 i ∧ x = v ∧ (i = a → x = .slice none 0 0) ∧ OwnsR w.heap.size wr 48 3 x (cutR a i) ∧ Below w.heap.size w wr) (fun _ p _ => (a + n - intOf p).toNat)
          case atStart => exact ⟨a, _, Int.le_refl _, by omega, rfl, rfl, fun _ => rfl, by rw [HCN.out]; exact OwnsR.nil _ _ _ _, Below.refl _ _⟩
          case round =>
            obtain ⟨i, v, hi1, hi2, rfl, rfl, hvn, hO, hB⟩ := hrel
            have HVN := Lib.hid hvn
            clear hvn
            have HO := Lib.hid hO
            have HB := Lib.hid hB
            have HBS := Lib.hid hB.size
            have HN := Lib.hid (cutN_le (a := a) (e := i) ha0 (by omega))
            clear hO hB
            by_cases hin : i < a + n
            · have hi0 : 0 ≤ i := by omega
              have hi9 : i ≤ 136192 := by omega
              by_cases hai : a < i
              · obtain ⟨M, hM⟩ := cutN_pos hai
                rcases HO.out.head with ⟨_, hnil⟩ | ⟨g, cp, rfl, hg1, hg2, hc1, hc2, hcells⟩
                · have := cutR_length a i; rw [hnil, hM] at this; simp at this
                · have hlen := cutR_length a i
                  rw [hM] at hlen
                  have hMs : M < 2000 := by have := HN.out; omega
                  by_cases hs : (i - 1) / 128 = i / 128
                  · obtain ⟨r, hr0, hr1, hr2, hr3⟩ := cutR_more ha0 hai hs hM
                    have d0 := hcells M 0 (by omega) (by omega)
                    have d2 := hcells M 2 (by omega) (by omega)
                    rw [hr0] at d0 d2
                    simp only [Option.getD_some] at d0 d2
                    rw [hr1, hs] at d0
                    replace d0 : wr.cell? ⟨g, M * 3, none⟩ = some (.int .i64 (i / 128)) := d0
                    rw [hr2] at d2
                    have f2 : wr.frozen? ⟨g, M * 3 + 2, none⟩ = false := HO.out.frozen _
                    have hst := HO.out.stored hr0 (i := 2) (by decide) ((i - 1) % 128 + 1 + 1)
                    have HST := Lib.hid hst
                    have HR3 := Lib.hid hr3
                    have HG1 := Lib.hid hg1
                    have HG2 := Lib.hid hg2
                    have HH := Lib.hid hlen
                    rw [hlen] at HO HST ⊢
                    clear hst hr0 hr1 hr2 hr3 hcells hs hlen hM hc1 hc2
                    have HBN : Hid (Below w.heap.size w (wr.setCell ⟨g, M * 3 + 2, none⟩ (.int .i64 ((i - 1) % 128 + 1 + 1)))) := HB.out.grown HST.out.2 HBS.out (fun k hk => by cases hk; exact HG1.out)
                    go_wp2_with fail
                    go_roundw
                    case rel => exact ⟨i + 1, _, by omega, by omega, rfl, rfl, (fun h => by omega), by rw [HR3.out]; exact HST.out.1, HBN.out⟩
                    case measure => simp [intOf]; omega
                  · have d0 := hcells M 0 (by omega) (by omega)
                    obtain ⟨r, hr0, hr1⟩ := cutR_last ha0 hai hM
                    rw [hr0] at d0
                    simp only [Option.getD_some] at d0
                    rw [hr1] at d0
                    replace d0 : wr.cell? ⟨g, M * 3, none⟩ = some (.int .i64 ((i - 1) / 128)) := d0
                    have hne := eqx_ hs
                    have VB : Hid (∀ k, (Value.slice (some ⟨g, 0, none⟩) (M + 1) cp).ownBlock = some k → w.heap.size ≤ k) := fun k hk => by have e : g = k := Option.some.inj hk; omega
                    rw [hlen] at HO ⊢
                    have hnew := cutR_new ha0 hi1 (show ¬ (a < i ∧ (i - 1) / 128 = i / 128) by omega)
                    have HNEW := Lib.hid hnew
                    have hl2 : ((cutR a i).length + [[i / 128, i % 128, i % 128 + 1]].length) * 24 ≤ 140737488355328 := by
                      have := HN.out
                      rw [cutR_length]; simp; omega
                    have hl3 : (cutR a i).length + [[i / 128, i % 128, i % 128 + 1]].length ≤ maxLen := by
                      have := HN.out
                      unfold maxLen
                      rw [cutR_length]; simp; omega
                    have hm3 : ∀ p ∈ [[i / 128, i % 128, i % 128 + 1]], p.length = 3 := by simp
                    have hcc : ∀ q u, (flatV [[i / 128, i % 128, i % 128 + 1]])[q]? = some u → (wr.alloc (.cells #[.int .i64 (i / 128), .int .i64 (i % 128), .int .i64 (i % 128 + 1)] 48)).cell? ⟨wr.heap.size, q, none⟩ = some u := fun q u hu => by
                      unfold World.cell?
                      rw [heap_alloc_new]
                      simpa [flatV] using hu
                    have O1 := Lib.hid hl2
                    have O2 := Lib.hid hl3
                    have O3 := Lib.hid hm3
                    have O4 := Lib.hid hcc
                    have O5 : Hid (OwnsR w.heap.size (wr.alloc (.cells #[.int .i64 (i / 128), .int .i64 (i % 128), .int .i64 (i % 128 + 1)] 48)) 48 3 (Value.slice (some ⟨g, 0, none⟩) (M + 1) cp) (cutR a i)) := HO.out.alloc _
                    have O6 : Hid (w.heap.size ≤ (wr.alloc (.cells #[.int .i64 (i / 128), .int .i64 (i % 128), .int .i64 (i % 128 + 1)] 48)).heap.size) := by
                      have := HBS.out
                      show _ ≤ _; simp; omega
                    have HBA : Hid (Below w.heap.size w (wr.alloc (.cells #[.int .i64 (i / 128), .int .i64 (i % 128), .int .i64 (i % 128 + 1)] 48))) := HB.out.alloc HBS.out _
                    clear hnew hl2 hl3 hm3 hcc hr0 hr1 hcells hs hlen hM hc1 hc2 HO
                    go_wp2_with (at_builtin; refine wpList_append_rows rfl _ _ _ rfl w.heap.size 48 _ 3 24 Tryd.underlying43 info_rpiece rfl (by decide) (Value.slice (some ⟨g, 0, none⟩) (M + 1) cp) (cutR a i) rfl O5.out wr.heap.size 1 [[i / 128, i % 128, i % 128 + 1]] O3.out rfl O4.out O1.out O2.out O6.out ?_; intro v' w' h1' h2'; have O8 := Lib.hid h1'; have HBN := Lib.hid (Below.grown HBA.out h2' O6.out VB.out); clear h1' h2')
                    go_roundw
                    case rel => exact ⟨i + 1, _, by omega, by omega, rfl, rfl, (fun h => by omega), by rw [HNEW.out]; exact O8.out, HBN.out⟩
                    case measure => simp [intOf]; omega
              · have hai2 : i = a := by omega
                have hv : v = .slice none 0 0 := HVN.out hai2
                subst hv
                have VB : Hid (∀ k, (Value.slice none 0 0).ownBlock = some k → w.heap.size ≤ k) := fun k hk => by cases hk
                have hnew := cutR_new ha0 hi1 (show ¬ (a < i ∧ (i - 1) / 128 = i / 128) by omega)
                have HNEW := Lib.hid hnew
                have hl2 : ((cutR a i).length + [[i / 128, i % 128, i % 128 + 1]].length) * 24 ≤ 140737488355328 := by
                  have := HN.out
                  rw [cutR_length]; simp; omega
                have hl3 : (cutR a i).length + [[i / 128, i % 128, i % 128 + 1]].length ≤ maxLen := by
                  have := HN.out
                  unfold maxLen
                  rw [cutR_length]; simp; omega
                have hm3 : ∀ p ∈ [[i / 128, i % 128, i % 128 + 1]], p.length = 3 := by simp
                have hcc : ∀ q u, (flatV [[i / 128, i % 128, i % 128 + 1]])[q]? = some u → (wr.alloc (.cells #[.int .i64 (i / 128), .int .i64 (i % 128), .int .i64 (i % 128 + 1)] 48)).cell? ⟨wr.heap.size, q, none⟩ = some u := fun q u hu => by
                  unfold World.cell?
                  rw [heap_alloc_new]
                  simpa [flatV] using hu
                have O1 := Lib.hid hl2
                have O2 := Lib.hid hl3
                have O3 := Lib.hid hm3
                have O4 := Lib.hid hcc
                have O5 : Hid (OwnsR w.heap.size (wr.alloc (.cells #[.int .i64 (i / 128), .int .i64 (i % 128), .int .i64 (i % 128 + 1)] 48)) 48 3 (Value.slice none 0 0) (cutR a i)) := HO.out.alloc _
                have O6 : Hid (w.heap.size ≤ (wr.alloc (.cells #[.int .i64 (i / 128), .int .i64 (i % 128), .int .i64 (i % 128 + 1)] 48)).heap.size) := by
                  have := HBS.out
                  show _ ≤ _; simp; omega
                have HBA : Hid (Below w.heap.size w (wr.alloc (.cells #[.int .i64 (i / 128), .int .i64 (i % 128), .int .i64 (i % 128 + 1)] 48))) := HB.out.alloc HBS.out _
                clear hnew hl2 hl3 hm3 hcc HO hai2
                go_wp2_with (at_builtin; refine wpList_append_rows rfl _ _ _ rfl w.heap.size 48 _ 3 24 Tryd.underlying43 info_rpiece rfl (by decide) (Value.slice none 0 0) (cutR a i) rfl O5.out wr.heap.size 1 [[i / 128, i % 128, i % 128 + 1]] O3.out rfl O4.out O1.out O2.out O6.out ?_; intro v' w' h1' h2'; have O8 := Lib.hid h1'; have HBN := Lib.hid (Below.grown HBA.out h2' O6.out VB.out); clear h1' h2')
                go_roundw
                case rel => exact ⟨i + 1, _, by omega, by omega, rfl, rfl, (fun h => by omega), by rw [HNEW.out]; exact O8.out, HBN.out⟩
                case measure => simp [intOf]; omega
            · have hie : i = a + n := by omega
              subst hie
              go_wp2
              go_ret2
              exact HF.out _ _ _ E.out (by rw [ER.out]; exact HO.out) HB.out
end Go.Proofs.YthipeaighngpfaaDoor
