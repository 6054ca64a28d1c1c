/- The document's Clean, by its walk. -/
import Derived.Test.YtpnafikmbbnecaaDoorClean
namespace Go.Proofs.YtpnafikmbbnecaaDoor
open Go.RowKit Go.Sort
set_option linter.unusedVariables false
set_option linter.unusedSimpArgs false
set_option maxRecDepth 100000

set_option maxHeartbeats 6400000 in
theorem rclean_is (a : Option Addr) (cp : Nat) (Q : List Bs) (w : World) (hr : ReadsV w a Q.length (strsV Q)) (hq : Q.length ≤ 900) :
    Calls Tryd.prog 11 #[.slice a Q.length cp] w (CleanPost Q w) := by
  have HR := Lib.hid (strs_get hr)
  obtain ⟨n, hn⟩ : ∃ n, Q.length = n := ⟨_, rfl⟩
  have HN := Lib.hid hn
  rw [hn] at hq ⊢
  have fin : ∀ (v : Value) (w' : World), OwnsV w.heap.size w' 9 v (strsV (cleanL Q)) → Below w.heap.size w w' → CleanPost Q w (.returned v) w' := fun v w' h1 h2 => ⟨v, rfl, h1, h2⟩
  have HF := Lib.hid fin
  clear hr hn fin
  go_enter Tryd.func11, Tryd.ntmps11
  go_wp2
  go_loopw [3, 4] (fun vl vi wr => ∃ (i : Nat) (v : Value), i ≤ n ∧ vi = .int .i64 i ∧ v = vl ∧ OwnsV w.heap.size wr 9 v (strsV (cleanL (Q.take i))) ∧ Below w.heap.size w wr) (fun _ vi _ => n - (intOf vi).toNat)
  case atStart => exact ⟨0, _, Nat.zero_le _, rfl, rfl, OwnsV.nil _ _ _, Below.refl _ _⟩
  case round =>
    obtain ⟨i, v, hi, rfl, rfl, hO, hB⟩ := hrel
    have HO := Lib.hid hO
    have HB := Lib.hid hB
    by_cases hlt : i < n
    · obtain ⟨p, hp⟩ : ∃ p, Q[i]? = some p := ⟨_, List.getElem?_eq_getElem (by have := HN.out; omega)⟩
      obtain ⟨g, off, rfl, hg, hc⟩ := HR.out i p hp
      obtain ⟨y, hy⟩ : ∃ y : ByteArray, y = ⟨p.toArray⟩ := ⟨_, rfl⟩
      have hyl : y.data.toList = p := by rw [hy]
      have hcell : wr.cell? ⟨g, off + i, none⟩ = some (.string y) := by rw [hB.cell (p := ⟨g, off + i, none⟩) hg, hc, hy]; rfl
      have hgw := Nat.lt_of_lt_of_le hg hB.size
      have hyt := txt_tests hyl
      have hct := cleanL_take hp
      have hcl := cleanL_take_len Q i
      have hlt2 : (i : Int) < (n : Int) := by omega
      have HYL := Lib.hid hyl
      obtain ⟨L, hL⟩ : ∃ L, cleanL (Q.take i) = L := ⟨_, rfl⟩
      rw [hL] at HO hct hcl
      clear hO hB hp hc hy hyl hL
      by_cases hup : p = [46, 46]
      · have t1 : (y.toList != [46, 46]) = false := by rw [hyt, hup]; rfl
        have t2 : (y.toList == [46, 46]) = true := by rw [hyt, hup]; rfl
        have hcs : cleanS L p = L.dropLast := by unfold cleanS; rw [if_neg (fun h => h hup)]
        rw [hcs] at hct
        clear hcs hup hyt
        obtain ⟨b, cq, hv, _, hq1, hq2⟩ := HO.out.reads
        rw [strsV_length] at hv hq1
        subst hv
        by_cases hz : 0 < L.length
        · obtain ⟨D, q, hD⟩ := split_last_len hz
          have hz2 : (0 : Int) < (L.length : Int) := by omega
          obtain ⟨m, hm⟩ : ∃ m, D.length = m := ⟨_, rfl⟩
          have hLm : L.length = m + 1 := by rw [hD, List.length_append, hm]; rfl
          have hdl : L.dropLast = D := by rw [hD]; simp
          have hO2 := HO.out
          rw [hD, strsV_append] at hO2
          have hpop := owns_pop hO2
          rw [strsV_length, hm] at hpop
          have HP := Lib.hid hpop
          have HCT : Hid (cleanL (Q.take (i + 1)) = D) := hct.trans hdl
          rw [hLm] at hq1 hz2 ⊢
          have hm1 : m ≤ 900 := by omega
          obtain ⟨gb, hgb⟩ : ∃ gb, b = some ⟨gb, 0, none⟩ := by
            rcases HO.out.head with ⟨h1, h2⟩ | ⟨g', c', h1, _⟩
            · have := congrArg List.length h2
              rw [strsV_length, hLm] at this; simp at this
            · rw [strsV_length] at h1
              simp only [Value.slice.injEq] at h1
              exact ⟨g', h1.1⟩
          subst hgb
          clear hct hD hm hLm hdl hO2 hpop hz HO
          go_wp2
          go_roundw
          case rel => exact ⟨i + 1, _, by omega, by go_num, rfl, by rw [HCT.out]; exact HP.out, HB.out⟩
          case measure => simp [intOf]; omega
        · have hz2 : ¬ (0 : Int) < (L.length : Int) := by omega
          have hL0 : L = [] := List.length_eq_zero_iff.1 (by omega)
          have HCT : Hid (cleanL (Q.take (i + 1)) = L) := by show _ = _; rw [hct, hL0]; rfl
          clear hct hL0 hz
          go_wp2
          go_roundw
          case rel => exact ⟨i + 1, _, by omega, by go_num, rfl, by rw [HCT.out]; exact HO.out, HB.out⟩
          case measure => simp [intOf]; omega
      · have t1 : (y.toList != [46, 46]) = true := by rw [hyt]; simp [hup]
        have t2 : (y.toList == [46, 46]) = false := by rw [hyt]; simp [hup]
        have hcs : cleanS L p = L ++ [p] := by unfold cleanS; rw [if_pos hup]
        have HCT : Hid (cleanL (Q.take (i + 1)) = L ++ [p]) := hct.trans hcs
        clear hcs hup hyt hct
        go_wp2_with (at_builtin; refine app_one rfl _ _ rfl w v L (by omega) rfl HB.out HO.out p y HYL.out rfl ?_; intro v' w' h1' h2'; have O1 := Lib.hid h1'; have B1 := Lib.hid h2'; clear h1' h2')
        go_roundw
        case rel => exact ⟨i + 1, _, by omega, by go_num, rfl, by rw [HCT.out]; exact O1.out, B1.out⟩
        case measure => simp [intOf]; omega
    · have hge : ¬ ((i : Int) < (n : Int)) := by omega
      have hall : Q.take i = Q := List.take_of_length_le (by have := HN.out; omega)
      rw [hall] at HO
      clear hall hO hB
      go_wp2
      go_ret
      exact HF.out _ _ HO.out HB.out
end Go.Proofs.YtpnafikmbbnecaaDoor
