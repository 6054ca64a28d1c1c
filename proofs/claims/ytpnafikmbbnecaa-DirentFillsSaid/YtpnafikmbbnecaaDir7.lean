/- The document's word on a name; the law DirentNames, walked. -/
import Derived.Test.YtpnafikmbbnecaaDir6
namespace Go.Proofs.Ytpnafikmbbnecaa
open Go.RowKit Go.Sort
set_option linter.unusedVariables false
set_option linter.unusedSimpArgs false
set_option maxRecDepth 100000

theorem badB_take {l : List UInt8} {k : Nat} {c : UInt8} (h : badB (l.take k) = false) (hc : l[k]? = some c) (h0 : c ≠ 0) (h47 : c ≠ 47) : badB (l.take (k + 1)) = false := by
  unfold badB at h ⊢
  rw [List.take_add_one, hc, List.any_append, h]
  simp [h0, h47]
theorem rgood_is (s : ByteArray) (w : World) (hs : s.size ≤ maxLen) : Calls Try.prog 18 #[.string s] w fun e w' => e = .returned (.int .i64 (goodE s.data.toList)) ∧ w = w' := by
  obtain ⟨l, hl⟩ : ∃ l, s.data.toList = l := ⟨_, rfl⟩
  rw [hl]
  have hsz : s.size = l.length := by rw [Lib.size_eq, hl]
  have HSZ := Lib.hid hsz
  have hget : ∀ i (h : i < s.size), l[i]? = some (s[i]'h) := fun i h => by rw [← hl]; exact Lib.data_getElem? s i h
  have HG := Lib.hid hget
  unfold maxLen at hs
  clear hl hsz hget
  go_enter Try.func18, Try.ntmps18
  go_wp2
  go_loop [3] (fun i => ∃ k : Nat, k ≤ s.size ∧ i = .int .i64 k ∧ Hid (badB (l.take k) = false)) (fun i => s.size - (intOf i).toNat)
  case atStart => exact ⟨0, Nat.zero_le _, rfl, Lib.hid rfl⟩
  case round =>
    obtain ⟨k, hk, rfl, HNO⟩ := hrel
    by_cases hlt : k < s.size
    · obtain ⟨c, hc⟩ : ∃ c : UInt8, s[k]'hlt = c := ⟨_, rfl⟩
      have hgc := HG.out k hlt
      rw [hc] at hgc
      have HGC := Lib.hid hgc
      clear hgc
      by_cases h0 : c = 0
      · subst h0
        have HE : Hid (goodE l = 1) := Lib.hid (by unfold goodE; rw [if_pos (badB_iff.2 (.inl (List.mem_of_getElem? HGC.out)))])
        go_wp2
        go_ret
        exact ⟨by rw [HE.out]; rfl, rfl⟩
      · have h0b : ((c.toNat : Int) == 0) = false := by
          have : c.toNat ≠ 0 := fun e => h0 (UInt8.toNat_inj.1 e)
          simp; omega
        by_cases h47 : c = 47
        · subst h47
          have HE : Hid (goodE l = 1) := Lib.hid (by unfold goodE; rw [if_pos (badB_iff.2 (.inr (List.mem_of_getElem? HGC.out)))])
          clear h0
          go_wp2
          go_ret
          exact ⟨by rw [HE.out]; rfl, rfl⟩
        · have h47b : ((c.toNat : Int) == 47) = false := by
            have : c.toNat ≠ 47 := fun e => h47 (UInt8.toNat_inj.1 e)
            simp; omega
          have HNN := Lib.hid (badB_take HNO.out HGC.out h0 h47)
          clear h0 h47
          go_wp2
          go_round
          case rel => exact ⟨k + 1, by omega, by go_num, HNN⟩
          case measure => simp [intOf]; omega
    · obtain rfl : k = s.size := by omega
      have hb : badB l = false := by
        have h := HNO.out
        rw [List.take_of_length_le (by rw [HSZ.out]; exact Nat.le_refl _)] at h
        exact h
      by_cases hn : s.size = 0
      · have HE : Hid (goodE l = 4) := Lib.hid (by
          unfold goodE
          rw [hb, if_neg (by decide), if_pos (List.length_eq_zero_iff.1 (by rw [← HSZ.out]; exact hn))])
        have hn0 : ((s.size : Int) == 0) = true := by rw [hn]; rfl
        clear hb hn
        go_wp2
        go_ret
        exact ⟨by rw [HE.out]; rfl, rfl⟩
      · have hn0 : ((s.size : Int) == 0) = false := beq_eq_false_iff_ne.2 (by omega)
        have hne : ¬ l = [] := fun e => hn (by rw [HSZ.out, e]; rfl)
        by_cases h26 : 26 < s.size
        · have HE : Hid (goodE l = 9) := Lib.hid (by
            unfold goodE
            rw [hb, if_neg (by decide), if_neg hne, if_pos (by rw [← HSZ.out]; exact h26)])
          have hI : (26 : Int) < (s.size : Int) := by omega
          clear hb hn hne
          go_wp2
          go_ret
          exact ⟨by rw [HE.out]; rfl, rfl⟩
        · have HE : Hid (goodE l = 0) := Lib.hid (by
            unfold goodE
            rw [hb, if_neg (by decide), if_neg hne, if_neg (by rw [← HSZ.out]; exact h26)])
          have hI : ¬ (26 : Int) < (s.size : Int) := by omega
          clear hb hn hne
          go_wp2
          go_ret
          exact ⟨by rw [HE.out]; rfl, rfl⟩
theorem direntNames_tail (s : ByteArray) (hs : s.size ≤ 300) : ∀ W : World, Calls Try.prog 56 #[.string s] W (fun e w' => e = .returned (.int .i64 (goodE s.data.toList)) ∧ Below W.heap.size W w') := fun W => good_is s W (by unfold Fit; omega)
end Go.Proofs.Ytpnafikmbbnecaa
