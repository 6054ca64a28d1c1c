/- The law DiskArms is true for every input: of deeds just as many are done as the disk was armed with; the next one kills it, and no other. No condition. -/
import Derived.Test.YtedhfgadphjobaaAwake3
import Derived.Test.YtedhfgadphjobaaOpenI
import Derived.Lib.MinMax
namespace Go.Proofs.Ytedhfgadphjobaa
open Go.ChangeShapes Go.WideShapes Go.ChangeAt Go.RowKit Go.Sort
set_option linter.unusedVariables false
set_option linter.unusedSimpArgs false
set_option maxRecDepth 100000

structure ArmInv (N good k : Nat) (D : DiskD) : Prop where
  secs : D.secs.length = 5
  armed : D.armed = true
  deeds : D.deeds = good
  left : D.dead = false → D.left + good = N
  gone : D.dead = true → good = N
  few : D.cache.length ≤ k
  less : good ≤ N
  le : good ≤ k
theorem ArmInv.kills {N good k : Nat} {D : DiskD} (h : ArmInv N good k D) (hs : strikeB D = true) : good = N ∧ (strikeD D).dead = true ∧ ArmInv N good (k + 1) (strikeD D) := by
  have e : good = N := by
    cases hd : D.dead with
    | true => exact h.gone hd
    | false =>
      have := h.left hd
      unfold strikeB at hs
      rw [hd, h.armed] at hs
      simp at hs
      omega
  have e2 : (strikeD D).dead = true := hs
  exact ⟨e, e2, h.secs, h.armed, h.deeds, (fun h' => by rw [e2] at h'; cases h'), fun _ => e, Nat.le_succ_of_le h.few, h.less, Nat.le_succ_of_le h.le⟩
theorem ArmInv.does {N good k : Nat} {D : DiskD} (h : ArmInv N good k D) (hs : strikeB D = false) : D.dead = false ∧ good < N ∧ ArmInv N (good + 1) (k + 1) (deedD D) := by
  have hd : D.dead = false := by
    unfold strikeB at hs
    simp at hs
    exact hs.1
  have hl := h.left hd
  have hl0 : D.left ≠ 0 := by
    intro h0
    unfold strikeB at hs
    rw [h.armed, h0] at hs
    simp at hs
  have e : deedD D = { strikeD D with deeds := D.deeds + 1 } := by unfold deedD; rw [if_neg (by rw [hs]; decide)]
  have e1 : (deedD D).left = D.left - 1 := by
    rw [e]
    show (if D.armed && !strikeB D then D.left - 1 else D.left) = _
    rw [h.armed, hs]
    rfl
  refine ⟨hd, by omega, ?_, ?_, ?_, ?_, ?_, ?_, by omega, by have := h.le; omega⟩
  · rw [deedD_secs]; exact h.secs
  · rw [e]; exact h.armed
  · rw [e]; show D.deeds + 1 = _; rw [h.deeds]
  · intro _; omega
  · intro h'
    rw [e] at h'
    have : strikeB D = true := h'
    rw [hs] at this; cases this
  · rw [deedD_cache]; have := h.few; omega
theorem ArmInv.more {N good k : Nat} {D : DiskD} (h : ArmInv N good k D) : ArmInv N good (k + 1) D := ⟨h.secs, h.armed, h.deeds, h.left, h.gone, Nat.le_succ_of_le h.few, h.less, Nat.le_succ_of_le h.le⟩
theorem ArmInv.push {N good k : Nat} {D : DiskD} (h : ArmInv N good k D) (p : Nat × List Nat) : ArmInv N good (k + 1) (pushD D p) := ⟨h.secs, h.armed, h.deeds, h.left, h.gone, by show (D.cache ++ [p]).length ≤ _; have := h.few; simp; omega, h.less, Nat.le_succ_of_le h.le⟩

/-- A flush. -/
theorem ArmInv.flush_no {N good k : Nat} {D : DiskD} (h : ArmInv N good k D) (hs : strikeB D = true) : deedE D = 20 ∧ (flushD D).dead = true ∧ good = N ∧ ArmInv N good (k + 1) (flushD D) := by
  obtain ⟨e1, e2, e3⟩ := h.kills hs
  have e : flushD D = strikeD D := if_pos hs
  rw [e]
  exact ⟨if_pos hs, e2, e1, e3⟩
theorem ArmInv.flush_yes {N good k : Nat} {D : DiskD} (h : ArmInv N good k D) (hs : strikeB D = false) : deedE D = 0 ∧ D.dead = false ∧ good < N ∧ ArmInv N (good + 1) (k + 1) (flushD D) := by
  obtain ⟨e1, e2, e3⟩ := h.does hs
  have e : flushD D = { deedD D with secs := settles D.cache D.secs, cache := [] } := if_neg (by rw [hs]; decide)
  refine ⟨if_neg (by rw [hs]; decide), e1, e2, ?_⟩
  rw [e]
  have hl : (settles D.cache D.secs).length = D.secs.length := by
    generalize D.cache = c
    generalize D.secs = s
    induction c generalizing s with
    | nil => rfl
    | cons p c ih => show (settles c (s.set p.1 p.2)).length = _; rw [ih, List.length_set]
  exact ⟨hl.trans h.secs, e3.armed, e3.deeds, e3.left, e3.gone, by simp, e3.less, e3.le⟩
/-- A write. -/
theorem ArmInv.write_far {N good k : Nat} {D : DiskD} (h : ArmInv N good k D) {x : Int} (hx : x < 0 ∨ 4 < x) (s : List Nat) : writeE D x = 1 ∧ writeD D x s = D := by
  have e : refI D x = 1 := by unfold refI; rw [h.secs]; exact if_pos (by omega)
  exact ⟨by unfold writeE; rw [e]; rfl, by unfold writeD; rw [e]; rfl⟩
theorem ArmInv.write_no {N good k : Nat} {D : DiskD} (h : ArmInv N good k D) {x : Int} (hx : 0 ≤ x ∧ x ≤ 4) (s : List Nat) (hs : strikeB D = true) : writeE D x = 20 ∧ (writeD D x s).dead = true ∧ good = N ∧ ArmInv N good (k + 1 + 1) (writeD D x s) := by
  cases hd : D.dead with
  | true =>
    have e : refI D x = 20 := by unfold refI; rw [h.secs, if_neg (by omega), hd]; rfl
    have e2 : writeD D x s = D := by unfold writeD; rw [e]; rfl
    rw [e2]
    exact ⟨by unfold writeE; rw [e]; rfl, hd, h.gone hd, h.more.more⟩
  | false =>
    have e : refI D x = 0 := by unfold refI; rw [h.secs, if_neg (by omega), hd]; rfl
    have e2 : writeD D x s = deedD (pushD D (x.toNat, s)) := by unfold writeD; rw [e]; rfl
    have hs2 : strikeB (pushD D (x.toNat, s)) = true := hs
    have e3 : deedD (pushD D (x.toNat, s)) = strikeD (pushD D (x.toNat, s)) := if_pos hs2
    obtain ⟨k1, k2, k3⟩ := (h.push (x.toNat, s)).kills hs2
    rw [e2, e3]
    exact ⟨by unfold writeE; rw [e]; exact if_pos hs, k2, k1, k3⟩
theorem ArmInv.write_yes {N good k : Nat} {D : DiskD} (h : ArmInv N good k D) {x : Int} (hx : 0 ≤ x ∧ x ≤ 4) (s : List Nat) (hs : strikeB D = false) : writeE D x = 0 ∧ D.dead = false ∧ good < N ∧ ArmInv N (good + 1) (k + 1 + 1) (writeD D x s) := by
  obtain ⟨hd, _⟩ := h.does hs
  have e : refI D x = 0 := by unfold refI; rw [h.secs, if_neg (by omega), hd]; rfl
  have e2 : writeD D x s = deedD (pushD D (x.toNat, s)) := by unfold writeD; rw [e]; rfl
  have hs2 : strikeB (pushD D (x.toNat, s)) = false := hs
  obtain ⟨k1, k2, k3⟩ := (h.push (x.toNat, s)).does hs2
  rw [e2]
  have e4 : deedE D = 0 := if_neg (by rw [hs]; decide)
  exact ⟨by unfold writeE; rw [e]; exact e4, hd, k2, k3⟩

set_option maxHeartbeats 1600000 in
theorem diskArms_walk (n : Int) (a : Option Addr) (len cap : Nat) (l : List Int) (w : World) (hr : ReadsI w a len l) (hlen : len ≤ 9223372036854775807) (hlc : len ≤ cap) (hcm : cap ≤ 9223372036854775807) :
    Calls Try.prog 7 #[.int .i64 n, .slice a len cap] w fun e w' => e = .returned (.bool true) ∧ Below w.heap.size w w' := by
  obtain ⟨N, hN, hN5⟩ : ∃ N : Nat, max 0 (min n 50) = N ∧ N ≤ 50 := ⟨(max 0 (min n 50)).toNat, by omega, by omega⟩
  have HN := Lib.hid hN
  have HA : Hid (ArmInv N 0 0 (armD (newD 5) N)) := by
    have e : armD (newD 5) N = { newD 5 with dead := false, armed := true, left := N } := by
      unfold armD
      rw [if_neg (by decide)]
      simp
    show ArmInv _ _ _ _
    rw [e]
    exact ⟨rfl, rfl, rfl, fun _ => rfl, (fun h => by cases h), Nat.le_refl _, Nat.zero_le _, Nat.le_refl _⟩
  have hN9 : (N : Int) ≤ 9223372036854775807 := by omega
  have hbld := build_1
  have hs1 := byteS_length 1
  go_enter Try.func7, Try.ntmps7
  go_wp2_with fail
  refine (awake3_true w).mono ?_
  rintro e w1 ⟨rfl, b1⟩
  have B1 := Lib.hid b1
  have HB0 := Lib.hid b1.size
  clear b1
  go_wp2_with fail
  refine (dnew_is 5 w1 (by decide) (by decide)).mono ?_
  rintro e w2 ⟨g, gs, rfl, d2, b2⟩
  have D2 := Lib.hid d2
  have B2 : Hid (Below w.heap.size w w2) := B1.out.trans (b2.mono B1.out.size)
  clear d2 b2 B1
  go_wp2_with fail

  clear hN
  refine (darm_is (N : Int) D2.out hN9).mono ?_
  rintro e w3 ⟨rfl, d3, o3⟩
  have D3 := Lib.hid d3
  have B3 : Hid (Below w.heap.size w w3) := B2.out.trans (((DKeeps.of_g (gs := gs) (cv := .slice none 0 0) o3).below D2.out (by have := D2.out.2.2.2.2.1; have := (Array.getElem?_eq_some_iff.1 D2.out.1).1; omega)).mono HB0.out)
  have HS3 : Hid (w1.heap.size ≤ w3.heap.size) := by
    have := D3.out.2.2.2.2.1; have := (Array.getElem?_eq_some_iff.1 D3.out.1).1
    show _ ≤ _
    omega
  clear d3 o3 D2 B2
  have hll := hr.1
  have HR := Lib.hid hr
  clear hr
  go_wp2_with fail
  go_loopw [7, 8, 9, 10] (fun gd i _ _ wr => ∃ (k good : Nat) (D : DiskD) (cv : Value), k ≤ len ∧ k ≤ 60 ∧ gd = .int .i64 good ∧ i = .int .i64 k ∧ ArmInv N good (2 * k) D ∧ IsDisk w1.heap.size wr g gs cv D ∧ Below w.heap.size w wr) (fun _ i _ _ _ => 60 - (intOf i).toNat)
  case atStart =>
    exact ⟨0, 0, _, _, Nat.zero_le _, by decide, rfl, rfl, HA.out, D3.out, B3.out⟩
  case round =>
    obtain ⟨k, good, D, cv, hk1, hk2, rfl, rfl, hA, hD, hB⟩ := hrel
    have HA2 := Lib.hid hA
    have HD := Lib.hid hD
    have HB := Lib.hid hB
    have hgn := hA.less
    have hgk := hA.le
    have hdd : D.deeds < 1000000 := by rw [hA.deeds]; omega
    have hcc : D.cache.length < 1000000 := by have := hA.few; omega
    have hsz : w1.heap.size ≤ wr.heap.size := by
      have := hD.2.2.2.2.1; have := (Array.getElem?_eq_some_iff.1 hD.1).1
      omega
    clear hA hD hB HA
    by_cases hlt : k < len
    · by_cases h60 : k < 60
      · obtain ⟨b, off, rfl, hbl, hcell⟩ : ∃ b off, a = some ⟨b, off, none⟩ ∧ b < w.heap.size ∧ ∀ i, i < len → w.cell? ⟨b, off + i, none⟩ = some (.int .i64 (l[i]?.getD 0)) := by
          obtain ⟨h1, h2 | h2⟩ := HR.out
          · subst h2; simp at h1; omega
          · exact h2
        obtain ⟨x, hx⟩ : ∃ x, l[k]?.getD 0 = x := ⟨_, rfl⟩
        have c0 : wr.cell? ⟨b, off + k, none⟩ = some (.int .i64 x) := by rw [← hx]; exact (HB.out.cell (p := ⟨b, off + k, none⟩) hbl).trans (hcell k hlt)
        have hkl : (0 : Int) ≤ (k : Int) ∧ (k : Int) < (len : Int) := by omega
        have hk60 : (k : Int) < 60 := by omega
        have HBL := Lib.hid hbl
        clear hcell HR hbl hx
        by_cases h5 : x = 5
        · subst h5
          by_cases hs : strikeB D = true
          · obtain ⟨e1, e2, e3, e4⟩ := HA2.out.flush_no hs
            subst e3
            have E := Lib.hid (And.intro e1 (And.intro e2 e4))
            clear e1 e2 e4 hs
            go_wp2_with fail
            refine (ddead_is HD.out).mono ?_
            rintro e w4 ⟨rfl, rfl⟩
            go_wp2_with fail
            refine (dflush_is HD.out hdd).mono ?_
            rintro e w5 ⟨rfl, ⟨cv2, d5, _⟩, k5⟩
            rw [E.out.1]
            have D5 := Lib.hid d5
            have B5 : Hid (Below w.heap.size w w5) := HB.out.trans ((k5.below HD.out hsz).mono HB0.out)
            clear d5 k5
            go_wp2_with fail
            refine (ddead_is D5.out).mono ?_
            rintro e w6 ⟨rfl, rfl⟩
            rw [E.out.2.1]
            go_wp2
            go_roundw
            case rel => exact ⟨k + 1, good, _, _, by omega, by omega, rfl, by simp, E.out.2.2.more, D5.out, B5.out⟩
            case measure => simp [intOf]; omega
          · obtain ⟨e1, e2, e3, e4⟩ := HA2.out.flush_yes (by simpa using hs)
            have E := Lib.hid (And.intro e1 (And.intro e2 e4))
            have hlg : (good : Int) < (N : Int) := by omega
            clear e1 e2 e3 e4 hs
            go_wp2_with fail
            refine (ddead_is HD.out).mono ?_
            rintro e w4 ⟨rfl, rfl⟩
            rw [E.out.2.1]
            go_wp2_with fail
            refine (dflush_is HD.out hdd).mono ?_
            rintro e w5 ⟨rfl, ⟨cv2, d5, _⟩, k5⟩
            rw [E.out.1]
            have D5 := Lib.hid d5
            have B5 : Hid (Below w.heap.size w w5) := HB.out.trans ((k5.below HD.out hsz).mono HB0.out)
            clear d5 k5
            go_wp2
            go_roundw
            case rel => exact ⟨k + 1, good + 1, _, _, by omega, by omega, by simp, by simp, E.out.2.2.more, D5.out, B5.out⟩
            case measure => simp [intOf]; omega
        · by_cases hfar : x < 0 ∨ 4 < x
          · have E := Lib.hid (HA2.out.write_far hfar (byteS 1))
            have hx5 : ((x : Int) == 5) = false := by simpa using h5
            go_wp2_with fail
            refine (ddead_is HD.out).mono ?_
            rintro e w4 ⟨rfl, rfl⟩
            go_wp2_with fail
            refine (dwrite_is HD.out hdd hcc x (byteS 1) hs1 (byteS_bytes (by decide))).mono ?_
            rintro e w5 ⟨rfl, ⟨cv2, d5⟩, k5⟩
            rw [E.out.1]
            have D5 := Lib.hid d5
            have B5 : Hid (Below w.heap.size w w5) := HB.out.trans ((k5.below HD.out hsz).mono HB0.out)
            clear d5
            rw [E.out.2] at D5
            have c5 : w5.cell? ⟨b, off + k, none⟩ = some (.int .i64 x) := (Below.cell (k5.below HD.out hsz) (p := ⟨b, off + k, none⟩) (Nat.lt_of_lt_of_le HBL.out HB0.out)).trans c0
            clear k5
            by_cases hneg : x < 0
            · go_wp2
              go_roundw
              case rel => exact ⟨k + 1, good, _, _, by omega, by omega, rfl, by simp, HA2.out.more.more, D5.out, B5.out⟩
              case measure => simp [intOf]; omega
            · have hpos : 4 < x := by omega
              go_wp2
              go_roundw
              case rel => exact ⟨k + 1, good, _, _, by omega, by omega, rfl, by simp, HA2.out.more.more, D5.out, B5.out⟩
              case measure => simp [intOf]; omega
          · have hin : 0 ≤ x ∧ x ≤ 4 := by omega
            obtain ⟨hx0, hx4⟩ := hin
            have hx5 : ((x : Int) == 5) = false := by simpa using h5
            by_cases hs : strikeB D = true
            · obtain ⟨e1, e2, e3, e4⟩ := HA2.out.write_no ⟨hx0, hx4⟩ (byteS 1) hs
              subst e3
              have E := Lib.hid (And.intro e1 (And.intro e2 e4))
              clear e1 e2 e4 hs hfar
              go_wp2_with fail
              refine (ddead_is HD.out).mono ?_
              rintro e w4 ⟨rfl, rfl⟩
              go_wp2_with fail
              refine (dwrite_is HD.out hdd hcc x (byteS 1) hs1 (byteS_bytes (by decide))).mono ?_
              rintro e w5 ⟨rfl, ⟨cv2, d5⟩, k5⟩
              rw [E.out.1]
              have D5 := Lib.hid d5
              have B5 : Hid (Below w.heap.size w w5) := HB.out.trans ((k5.below HD.out hsz).mono HB0.out)
              clear d5
              have c5 : w5.cell? ⟨b, off + k, none⟩ = some (.int .i64 x) := (Below.cell (k5.below HD.out hsz) (p := ⟨b, off + k, none⟩) (Nat.lt_of_lt_of_le HBL.out HB0.out)).trans c0
              clear k5
              go_wp2_with fail
              refine (ddead_is D5.out).mono ?_
              rintro e w6 ⟨rfl, rfl⟩
              rw [E.out.2.1]
              go_wp2
              go_roundw
              case rel => exact ⟨k + 1, good, _, _, by omega, by omega, rfl, by simp, E.out.2.2, D5.out, B5.out⟩
              case measure => simp [intOf]; omega
            · obtain ⟨e1, e2, e3, e4⟩ := HA2.out.write_yes ⟨hx0, hx4⟩ (byteS 1) (by simpa using hs)
              have E := Lib.hid (And.intro e1 (And.intro e2 e4))
              have hlg : (good : Int) < (N : Int) := by omega
              clear e1 e2 e3 e4 hs hfar
              go_wp2_with fail
              refine (ddead_is HD.out).mono ?_
              rintro e w4 ⟨rfl, rfl⟩
              rw [E.out.2.1]
              go_wp2_with fail
              refine (dwrite_is HD.out hdd hcc x (byteS 1) hs1 (byteS_bytes (by decide))).mono ?_
              rintro e w5 ⟨rfl, ⟨cv2, d5⟩, k5⟩
              rw [E.out.1]
              have D5 := Lib.hid d5
              have B5 : Hid (Below w.heap.size w w5) := HB.out.trans ((k5.below HD.out hsz).mono HB0.out)
              clear d5
              have c5 : w5.cell? ⟨b, off + k, none⟩ = some (.int .i64 x) := (Below.cell (k5.below HD.out hsz) (p := ⟨b, off + k, none⟩) (Nat.lt_of_lt_of_le HBL.out HB0.out)).trans c0
              clear k5
              go_wp2
              go_roundw
              case rel => exact ⟨k + 1, good + 1, _, _, by omega, by omega, by simp, by simp, E.out.2.2, D5.out, B5.out⟩
              case measure => simp [intOf]; omega
      · have hge : ¬ ((k : Int) < 60) := by omega
        have hkl : (k : Int) < (len : Int) := by omega
        have hdg : D.deeds = good := HA2.out.deeds
        go_wp2_with fail
        refine (ddeeds_is HD.out).mono ?_
        rintro e w4 ⟨rfl, rfl⟩
        rw [hdg]
        go_wp2
        go_ret
        exact ⟨rfl, HB.out⟩
    · have hge : ¬ ((k : Int) < (len : Int)) := by omega
      have hdg : D.deeds = good := HA2.out.deeds
      go_wp2_with fail
      refine (ddeeds_is HD.out).mono ?_
      rintro e w4 ⟨rfl, rfl⟩
      rw [hdg]
      go_wp2
      go_ret
      exact ⟨rfl, HB.out⟩
set_option maxRecDepth 100000 in
theorem diskArms_lifted (os : Os) (started : os.Started) (H : Type) (enc : TypeId × Value → H) :
    ReturnsInHanded {} Try.checked os 7 .any (Rows.diskArmsSpec.pre6 enc Try.prog Try.f7 Rows.diskArmsRow.domain false) (Rows.diskArmsSpec.post enc Try.prog Try.f7 false true false false) :=
  law_lifted (s := Rows.diskArmsSpec) started Try.func7 (by kernel_rfl) rfl (fun ds hd => by
        match ds, hd with
        | [_, _], _ => rfl) rfl
      (of_decide_eq_true (by kernel_rfl))
      (ChangeSpec.witness6 (enc := enc) (C := Try.checked) false ⟨#[], #[.int .i64 0, .slice none 0 0], []⟩ 8 (by kernel_rfl) (by kernel_rfl) (by kernel_rfl) (by kernel_rfl))
      (fun W base args ds ps hval hA hsz => by
        rw [Try.params7] at hA hval hsz
        obtain ⟨v0, vs0, d0, ds0, p0, q0, hargs, rfl, rfl, h0, r0⟩ := trodAll_cons hA
        obtain ⟨v1, vs1, d1, ds1, p1, q1, rfl, rfl, rfl, h1, r1⟩ := trodAll_cons r0
        obtain ⟨rfl, rfl, rfl⟩ := trodAll_nil r1
        obtain rfl : args = #[v0, v1] := by cases args; simp_all
        simp only [DataW.weightsEach, List.all_append, Bool.and_eq_true] at hsz
        obtain ⟨z0, z1, _⟩ := hsz
        obtain ⟨n, rfl, rfl, rfl, wf⟩ := open_int Try.underlying3 (hval 0 3 v0 rfl rfl) h0
        obtain ⟨a, len, cap, l, rfl, hr, hl, hc, _⟩ := open_nums (hval 1 43 v1 rfl rfl) h1 z1
        exact diskArms_walk n a len cap l W hr (by omega) hl (by omega))

theorem diskArms_holds : Rows.DiskArmsSaid :=
  OpenClaim.holds_of_wide 7 Try.f7 rfl rfl rfl rfl rfl rfl rfl ⟨rfl, rfl, rfl, rfl, rfl⟩ rfl rfl rfl rfl rfl (by kernel_rfl) Try.func7 (by kernel_rfl)
    (of_decide_eq_true (by kernel_rfl)) (by unfold Func.isWrapper; first | (rw [if_pos (by decide +kernel)]; kernel_rfl) | (rw [if_neg (by decide +kernel)]; exact ⟨rfl, rfl⟩))
    (fun os started H enc _ => diskArms_lifted os started H enc)
#print axioms diskArms_holds
end Go.Proofs.Ytedhfgadphjobaa
