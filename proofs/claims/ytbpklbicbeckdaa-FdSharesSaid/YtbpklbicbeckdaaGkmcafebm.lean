/- The law's look at a set: it is the document's. -/
import Derived.Test.YtbpklbicbeckdaaGlbjacnbg
import Derived.Test.YtbpklbicbeckdaaGjakdjjem
namespace Go.Proofs.Ytbpklbicbeckdaa
open Go.RowKit Go.Sort
set_option linter.unusedVariables false
set_option linter.unusedSimpArgs false
set_option maxRecDepth 100000

def cntS (ids : List Int) (q : Nat) : Nat := (placesL someB ids (min (q - 1) ids.length)).length
theorem cntS_no {ids : List Int} {q : Nat} (h : getS ids ((q : Int) - 1) = (0, 2)) : cntS ids (q + 1) = cntS ids q := by
  unfold cntS
  rcases q with _ | q
  · rfl
  · have e : ((q + 1 : Nat) : Int) - 1 = (q : Int) := by omega
    rw [e] at h
    by_cases hq : q < ids.length
    · obtain ⟨x, hx⟩ : ∃ x, ids[q]? = some x := ⟨_, List.getElem?_eq_getElem hq⟩
      have hn : someB x = false := by
        by_cases h1 : x = -1
        · rw [h1]; rfl
        · rw [getS_yes hx h1] at h
          have := congrArg Prod.snd h
          simp at this
      rw [show min (q + 1 + 1 - 1) ids.length = q + 1 by omega, show min (q + 1 - 1) ids.length = q by omega, placesL_no hx hn]
    · rw [show min (q + 1 + 1 - 1) ids.length = ids.length by omega, show min (q + 1 - 1) ids.length = ids.length by omega]
theorem cntS_yes {ids : List Int} {i : Nat} {x : Int} (hx : ids[i]? = some x) (h1 : x ≠ -1) : cntS ids (i + 1 + 1) = cntS ids (i + 1) + 1 ∧ (knownL ids)[cntS ids (i + 1)]? = some i ∧ (allL ids)[cntS ids (i + 1)]? = some x ∧ cntS ids (i + 1) < (knownL ids).length := by
  have hlt := (List.getElem?_eq_some_iff.1 hx).1
  have hs : someB x = true := by unfold someB; simp [h1]
  have e1 : cntS ids (i + 1) = (placesL someB ids i).length := by unfold cntS; rw [show min (i + 1 - 1) ids.length = i by omega]
  have e2 : cntS ids (i + 1 + 1) = (placesL someB ids (i + 1)).length := by unfold cntS; rw [show min (i + 1 + 1 - 1) ids.length = i + 1 by omega]
  obtain ⟨r, hr⟩ := placesL_more someB ids (i + 1) ids.length hlt
  rw [placesL_yes hx hs] at hr e2
  have hk : (knownL ids)[cntS ids (i + 1)]? = some i := by
    unfold knownL
    rw [hr, e1]
    simp
  refine ⟨by rw [e1, e2]; simp, hk, ?_, (List.getElem?_eq_some_iff.1 hk).1⟩
  unfold allL
  rw [List.getElem?_map, hk]
  simp [hx]
theorem cntS_full (ids : List Int) : cntS ids (ids.length + 2) = (knownL ids).length := by
  unfold cntS knownL
  rw [show min (ids.length + 2 - 1) ids.length = ids.length by omega]
theorem cntS_le (ids : List Int) (q : Nat) : cntS ids q ≤ ids.length := by
  unfold cntS
  exact Nat.le_trans (placesL_length _ _ _) (Nat.min_le_right _ _)
theorem getS_or (ids : List Int) (n : Int) : getS ids n = (0, 2) ∨ ∃ (i : Nat) (x : Int), n = (i : Int) ∧ ids[i]? = some x ∧ x ≠ -1 ∧ getS ids n = (x, 0) := by
  by_cases hz : getS ids n = (0, 2)
  · exact .inl hz
  · right
    have hh : hasS ids n = true := by
      cases hb : hasS ids n with
      | true => rfl
      | false => exact absurd (getS_out hb) hz
    obtain ⟨i, x, rfl, hx, hi⟩ := hasS_yes hh
    have hx1 : x ≠ -1 := fun e => hz (getS_none (by rw [hx, e]))
    exact ⟨i, x, rfl, hx, hx1, getS_yes hx hx1⟩
set_option maxHeartbeats 2000000 in
theorem set_true {B B' : Nat} {w : World} {g gs cap : Nat} {v : Value} {ids : List Int} (h : IsSet B w g gs cap ids) (hR : RSetP B' w v ids) (hok : OkS ids) :
    Calls Try.prog 43 #[.pointer (some ⟨g, 0, none⟩), v] w fun e w' => e = .returned (.bool true) ∧ Below w.heap.size w w' := by
  obtain ⟨a, c, rfl, h1⟩ := id hR
  obtain ⟨hr, _⟩ := hR.reads
  have hl := h.2.2.2.2
  obtain ⟨n, hn⟩ : ∃ n, ids.length = n := ⟨_, rfl⟩
  obtain ⟨K, hK⟩ : ∃ K, (knownL ids).length = K := ⟨_, rfl⟩
  rw [hn] at hl hr ⊢
  have HN := Lib.hid hn
  have HKK := Lib.hid hK
  have H := Lib.hid h
  have HR := Lib.hid hr
  have HO := Lib.hid hok
  have hall : (idV (allL ids)).length = K := by rw [idV_length, allL_length]; exact hK
  have hkn : (natV (knownL ids)).length = K := by rw [natV_length]; exact hK
  have HALL := Lib.hid hall
  have HKN := Lib.hid hkn
  have hK16 : K ≤ 16 := by rw [← hK]; exact Nat.le_trans (placesL_length _ _ _) (by omega)
  clear h h1 hR hr hn hok hall hkn hK
  go_enter Try.func43, Try.ntmps43
  go_wp2_with fail
  refine (sall_is H.out).mono ?_
  rintro e w1 ⟨v1, rfl, ho1, b1⟩
  obtain ⟨a1, c1, rfl, hr1, _, _⟩ := ho1.reads
  rw [HALL.out] at hr1 ⊢
  have HR1 := Lib.hid hr1
  have H1 := Lib.hid (H.out.below b1)
  have B1 := Lib.hid b1
  clear ho1 hr1 b1
  go_wp2_with fail
  refine (sknown_is H1.out).mono ?_
  rintro e w2 ⟨v2, rfl, ho2, b2⟩
  obtain ⟨a2, c2, rfl, hr2, _, _⟩ := ho2.reads
  rw [show (natV (placesL someB ids ids.length)).length = K from HKN.out] at hr2 ⊢
  have HR2 : Hid (ReadsV w2 a2 K (natV (knownL ids))) := Lib.hid hr2
  have HR12 := Lib.hid (HR1.out.below b2)
  have H2 := Lib.hid (H1.out.below b2)
  have B2 := Lib.hid (below_next B1.out b2)
  have HRW2 := Lib.hid (HR.out.below B2.out)
  clear ho2 hr2 b2 HR1 H1 B1
  go_wp2
  go_loopw [7, 8] (fun ct i wr => ∃ (q k : Nat), q ≤ n + 2 ∧ ct = .int .i64 (k : Int) ∧ Hid (k = cntS ids q) ∧ i = .int .i64 ((q : Int) - 1) ∧ wr = w2) (fun _ i _ => n + 2 - (intOf i + 1).toNat)
  case atStart => exact ⟨0, 0, by omega, rfl, Lib.hid rfl, rfl, rfl⟩
  case round =>
    obtain ⟨q, k, hq, rfl, HQ, rfl, rfl⟩ := hrel
    have hk16 : k ≤ 16 := by have h1 := HQ.out; have h2 := cntS_le ids q; have h3 := HN.out; omega
    by_cases hlt : q < n + 2
    · have hx1 : (q : Int) - 1 ≤ (n : Int) := by omega
      have HLT := Lib.hid hlt
      have HGET := Lib.hid (sget_is H2.out ((q : Int) - 1))
      have HRG := Lib.hid (rsget_is a n c ids HN.out HO.out ((q : Int) - 1) wr HRW2.out)
      rcases getS_or ids ((q : Int) - 1) with hz | ⟨i, x, hi, hx, hx1', hz⟩
      · have HNX : Hid (k = cntS ids (q + 1)) := Lib.hid (by rw [cntS_no hz]; exact HQ.out)
        rw [hz] at HGET HRG
        obtain ⟨z, hzz⟩ : ∃ z : Int, (q : Int) - 1 = z := ⟨_, rfl⟩
        have HZ := Lib.hid hzz
        have hzb : -1 ≤ z ∧ z ≤ 66 := by omega
        rw [hzz] at HGET HRG hx1 ⊢
        clear hz hzz hlt hq
        go_wp2_with fail
        refine HGET.out.mono ?_
        rintro e w' ⟨rfl, rfl⟩
        go_wp2_with fail
        refine HRG.out.mono ?_
        rintro e w' ⟨rfl, rfl⟩
        go_wp2
        have h1 := HLT.out
        have h2 := HZ.out
        go_roundw
        case rel => exact ⟨q + 1, k, by omega, rfl, HNX, congrArg (Value.int .i64) (by omega), by first | trivial | rfl⟩
        case measure => simp only [intOf]; omega
      · obtain rfl : q = i + 1 := by omega
        obtain ⟨y1, y2, y3, y4⟩ := cntS_yes hx hx1'
        have hk : k = cntS ids (i + 1) := HQ.out
        rw [← hk] at y1 y2 y3 y4
        have HNX : Hid (k + 1 = cntS ids (i + 1 + 1)) := Lib.hid y1.symm
        rw [hz, hi] at HGET HRG
        rw [hi] at hx1 ⊢
        have hkK : (k : Int) < (K : Int) := by have := HKK.out; omega
        have hkK2 : ¬ (K : Int) ≤ (k : Int) := by omega
        have hk0 : (0 : Int) ≤ (k : Int) := by omega
        obtain ⟨ba, oa, rfl, _, ca⟩ := HR12.out.at (idV_get y3)
        obtain ⟨bk, ok, rfl, _, ck⟩ := HR2.out.at (show (natV (knownL ids))[k]? = some (.int .i64 (i : Int)) by unfold natV; rw [List.getElem?_map, y2]; rfl)
        have e1 : (x != x) = false := by simp
        have e2 : ((i : Int) != (i : Int)) = false := by simp
        have hi64 : i ≤ 64 := by omega
        clear hz hi hlt hq hx y1 y2 y3 y4 hx1' hk
        go_wp2_with fail
        refine HGET.out.mono ?_
        rintro e w' ⟨rfl, rfl⟩
        go_wp2_with fail
        refine HRG.out.mono ?_
        rintro e w' ⟨rfl, rfl⟩
        go_wp2
        have h1 := HLT.out
        go_roundw
        case rel => exact ⟨i + 1 + 1, k + 1, by omega, by go_num, HNX, congrArg (Value.int .i64) (by omega), by first | trivial | rfl⟩
        case measure => simp only [intOf]; omega
    · obtain rfl : q = n + 2 := by omega
      have hx1 : ¬ ((n + 2 : Nat) : Int) - 1 ≤ (n : Int) := by omega
      have hkk : k = K := by rw [HQ.out, ← HKK.out, ← cntS_full, HN.out]
      subst hkk
      have e1 : ((k : Int) == (k : Int)) = true := by simp
      clear hlt hq
      go_wp2
      go_ret
      exact ⟨rfl, B2.out⟩
end Go.Proofs.Ytbpklbicbeckdaa
