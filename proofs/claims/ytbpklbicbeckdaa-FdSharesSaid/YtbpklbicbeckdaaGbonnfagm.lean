/- The document's open files: Is, Ref, Move, OpenOne. -/
import Derived.Test.YtbpklbicbeckdaaGoejackmk
import Derived.Test.YtbpklbicbeckdaaGhippfjmc
namespace Go.Proofs.Ytbpklbicbeckdaa
open Go.RowKit Go.Sort
set_option linter.unusedVariables false
set_option linter.unusedSimpArgs false
set_option maxRecDepth 100000

theorem rfis_is (a : Option Addr) (m c : Nat) (fl : List FileD) (hm : fl.length = m) (hl : m ≤ 64) (n : Int) (w : World) (hr : ReadsR w a 5 (filesV fl)) :
    Calls Try.prog 72 #[.slice a m c, .int .i64 n] w fun e w' => e = .returned (.bool (openAt fl n).isSome) ∧ w = w' := by
  by_cases h0 : 0 ≤ n
  · by_cases h1 : n < (m : Int)
    · obtain ⟨i, rfl⟩ := Int.eq_ofNat_of_zero_le h0
      obtain ⟨o, hu⟩ : ∃ o, fl[i]? = some o := ⟨_, List.getElem?_eq_getElem (by omega)⟩
      obtain ⟨b, off, rfl, hb, hc⟩ := hr.row (filesV_get hu)
      have c4 : w.cell? ⟨b, off + i * 5 + 4, none⟩ = some (.int .i64 o.refs) := by have := hc 4 _ rfl; rwa [← Nat.add_assoc] at this
      have HE : Hid ((openAt fl (i : Int)).isSome = decide (0 < o.refs)) := Lib.hid (by
        unfold openAt
        rw [if_pos (by omega), Int.toNat_natCast, hu]
        show (if knownB o = true then some o else none).isSome = _
        unfold knownB
        by_cases h : 0 < o.refs <;> simp [h])
      rw [HE.out]
      clear hr hu hc hb hm
      by_cases hp : 0 < o.refs
      · rw [decide_eq_true hp]
        go_enter Try.func72, Try.ntmps72
        go_wp2
        go_ret
        exact ⟨rfl, rfl⟩
      · rw [decide_eq_false hp]
        go_enter Try.func72, Try.ntmps72
        go_wp2
        go_ret
        exact ⟨rfl, rfl⟩
    · have HE : Hid ((openAt fl n).isSome = false) := Lib.hid (by
        unfold openAt
        rw [if_pos h0, List.getElem?_eq_none (by omega)]
        rfl)
      rw [HE.out]
      clear hr hm HE
      go_enter Try.func72, Try.ntmps72
      go_wp2
      go_ret
      exact ⟨rfl, rfl⟩
  · have HE : Hid ((openAt fl n).isSome = false) := Lib.hid (by
      unfold openAt
      rw [if_neg h0]
      rfl)
    rw [HE.out]
    clear hr hm HE
    go_enter Try.func72, Try.ntmps72
    go_wp2
    go_ret
    exact ⟨rfl, rfl⟩
def RPostF (B : Nat) (w : World) (fl : List FileD) (z : Int) (e : Ending) (w' : World) : Prop := ∃ v, e = .returned (.tuple #[v, .int .i64 z]) ∧ RFiles B w' v fl ∧ Below w.heap.size w w'
set_option maxHeartbeats 1600000 in
theorem rfref_is {B : Nat} {w : World} {v : Value} {fl : List FileD} (h : RFiles B w v fl) (hB : B ≤ w.heap.size) (hl : fl.length ≤ 64) (hf : FewRefs 1000 fl) (n : Int) :
    Calls Try.prog 28 #[v, .int .i64 n] w (RPostF B w (refF fl n).1 (refF fl n).2) := by
  obtain ⟨a, c, rfl, h1⟩ := id h
  obtain ⟨hr, _, _⟩ := h.reads
  obtain ⟨m, hm⟩ : ∃ m, fl.length = m := ⟨_, rfl⟩
  rw [hm] at h hl ⊢
  have HM := Lib.hid hm
  have H := Lib.hid h
  have HR := Lib.hid hr
  have his := rfis_is a m c fl hm hl n w hr
  unfold refF
  cases ho : openAt fl n with
  | none =>
    rw [ho] at his
    have HIS := Lib.hid his
    clear ho his h1 h hr hm
    go_enter Try.func28, Try.ntmps28
    go_wp2_with fail
    refine HIS.out.mono ?_
    rintro e w' ⟨rfl, rfl⟩
    go_wp2
    go_ret2
    exact ⟨_, rfl, H.out, Below.refl _ _⟩
  | some o =>
    rw [ho] at his
    have HIS := Lib.hid his
    obtain ⟨i, rfl, hu, hk⟩ := openAt_some ho
    have hb := hf o (List.mem_of_getElem? hu)
    have hi := (List.getElem?_eq_some_iff.1 hu).1
    have HPUT := Lib.hid (fun (W : World) (hW : Below w.heap.size w W) => rfput_is a c fl i hi (by omega) { o with refs := o.refs + 1 } W (hr.below hW))
    rw [hm] at HPUT
    unfold fileA at HPUT
    dsimp only at HPUT
    obtain ⟨b, off, rfl, hb9, hc⟩ := hr.row (filesV_get hu)
    have c0 : w.cell? ⟨b, off + i * 5, none⟩ = some (.int .i64 o.kind) := hc 0 _ rfl
    have c1 : w.cell? ⟨b, off + i * 5 + 1, none⟩ = some (.int .i64 o.num) := by have := hc 1 _ rfl; rwa [← Nat.add_assoc] at this
    have c2 : w.cell? ⟨b, off + i * 5 + 2, none⟩ = some (.int .i64 o.at_) := by have := hc 2 _ rfl; rwa [← Nat.add_assoc] at this
    have c3 : w.cell? ⟨b, off + i * 5 + 3, none⟩ = some (.int .i64 o.flags) := by have := hc 3 _ rfl; rwa [← Nat.add_assoc] at this
    have c4 : w.cell? ⟨b, off + i * 5 + 4, none⟩ = some (.int .i64 o.refs) := by have := hc 4 _ rfl; rwa [← Nat.add_assoc] at this
    have hw1 : IntKind.i64.wrap (o.refs + 1) = o.refs + 1 := IntWalk.i64_in _ (by omega)
    have hi2 : (i : Int) < (m : Int) := by omega
    have hi0 : (0 : Int) ≤ (i : Int) := by omega
    have HBW := Lib.hid (fun (W W' : World) (k : Below w.heap.size w W) (k' : Below W.heap.size W W') (fl' : List FileD) (v' : Value) (hv : RFiles W.heap.size W' v' fl') => (show RFiles B W' v' fl' ∧ Below w.heap.size w W' from ⟨hv.less (Nat.le_trans hB k.size), below_next k k'⟩))
    clear ho his h1 h hr hm hu hk hc hb9 hi hf hb
    simp only [Int.toNat_natCast]
    go_enter Try.func28, Try.ntmps28
    go_wp2_with fail
    refine HIS.out.mono ?_
    rintro e w' ⟨rfl, rfl⟩
    go_wp2_with fail
    refine (HPUT.out _ (below_box _ _)).mono ?_
    rintro e w2 ⟨v2, rfl, hv2, b2⟩
    have HV2 := Lib.hid (HBW.out _ _ (below_box _ _) b2 _ _ hv2)
    clear hv2 b2 c0 c1 c2 c3 c4
    go_wp2
    go_ret2
    exact ⟨_, rfl, HV2.out.1, HV2.out.2⟩
set_option maxHeartbeats 1600000 in
theorem rfmove_is {B : Nat} {w : World} {v : Value} {fl : List FileD} (h : RFiles B w v fl) (hB : B ≤ w.heap.size) (hl : fl.length ≤ 64) (n at_ : Int) :
    Calls Try.prog 32 #[v, .int .i64 n, .int .i64 at_] w (RPostF B w (moveF fl n at_).1 (moveF fl n at_).2) := by
  obtain ⟨a, c, rfl, h1⟩ := id h
  obtain ⟨hr, _, _⟩ := h.reads
  obtain ⟨m, hm⟩ : ∃ m, fl.length = m := ⟨_, rfl⟩
  rw [hm] at h hl ⊢
  have HM := Lib.hid hm
  have H := Lib.hid h
  have HR := Lib.hid hr
  have his := rfis_is a m c fl hm hl n w hr
  unfold moveF
  cases ho : openAt fl n with
  | none =>
    rw [ho] at his
    have HIS := Lib.hid his
    clear ho his h1 h hr hm
    go_enter Try.func32, Try.ntmps32
    go_wp2_with fail
    refine HIS.out.mono ?_
    rintro e w' ⟨rfl, rfl⟩
    go_wp2
    go_ret2
    exact ⟨_, rfl, H.out, Below.refl _ _⟩
  | some o =>
    rw [ho] at his
    have HIS := Lib.hid his
    obtain ⟨i, rfl, hu, hk⟩ := openAt_some ho
    have hi := (List.getElem?_eq_some_iff.1 hu).1
    have HPUT := Lib.hid (fun (W : World) (hW : Below w.heap.size w W) => rfput_is a c fl i hi (by omega) { o with at_ := at_ } W (hr.below hW))
    rw [hm] at HPUT
    unfold fileA at HPUT
    dsimp only at HPUT
    obtain ⟨b, off, rfl, hb9, hc⟩ := hr.row (filesV_get hu)
    have c0 : w.cell? ⟨b, off + i * 5, none⟩ = some (.int .i64 o.kind) := hc 0 _ rfl
    have c1 : w.cell? ⟨b, off + i * 5 + 1, none⟩ = some (.int .i64 o.num) := by have := hc 1 _ rfl; rwa [← Nat.add_assoc] at this
    have c2 : w.cell? ⟨b, off + i * 5 + 2, none⟩ = some (.int .i64 o.at_) := by have := hc 2 _ rfl; rwa [← Nat.add_assoc] at this
    have c3 : w.cell? ⟨b, off + i * 5 + 3, none⟩ = some (.int .i64 o.flags) := by have := hc 3 _ rfl; rwa [← Nat.add_assoc] at this
    have c4 : w.cell? ⟨b, off + i * 5 + 4, none⟩ = some (.int .i64 o.refs) := by have := hc 4 _ rfl; rwa [← Nat.add_assoc] at this
    have hi2 : (i : Int) < (m : Int) := by omega
    have hi0 : (0 : Int) ≤ (i : Int) := by omega
    have HBW := Lib.hid (fun (W W' : World) (k : Below w.heap.size w W) (k' : Below W.heap.size W W') (fl' : List FileD) (v' : Value) (hv : RFiles W.heap.size W' v' fl') => (show RFiles B W' v' fl' ∧ Below w.heap.size w W' from ⟨hv.less (Nat.le_trans hB k.size), below_next k k'⟩))
    clear ho his h1 h hr hm hu hk hc hb9 hi
    simp only [Int.toNat_natCast]
    by_cases hat : at_ < 0
    · rw [if_pos hat]
      clear c0 c1 c2 c3 c4 HPUT HBW
      go_enter Try.func32, Try.ntmps32
      go_wp2_with fail
      refine HIS.out.mono ?_
      rintro e w' ⟨rfl, rfl⟩
      go_wp2
      go_ret2
      exact ⟨_, rfl, H.out, Below.refl _ _⟩
    · rw [if_neg hat]
      go_enter Try.func32, Try.ntmps32
      go_wp2_with fail
      refine HIS.out.mono ?_
      rintro e w' ⟨rfl, rfl⟩
      go_wp2_with fail
      refine (HPUT.out _ (below_box _ _)).mono ?_
      rintro e w2 ⟨v2, rfl, hv2, b2⟩
      have HV2 := Lib.hid (HBW.out _ _ (below_box _ _) b2 _ _ hv2)
      clear hv2 b2 c0 c1 c2 c3 c4
      go_wp2
      go_ret2
      exact ⟨_, rfl, HV2.out.1, HV2.out.2⟩
def ROpenPost (B : Nat) (w : World) (fl : List FileD) (z y : Int) (e : Ending) (w' : World) : Prop := ∃ v, e = .returned (.tuple #[v, .int .i64 z, .int .i64 y]) ∧ RFiles B w' v fl ∧ Below w.heap.size w w'
theorem ROpenPost.of {B : Nat} {w w' : World} {v : Value} {fl : List FileD} {k n f z y : Int} {fl' : List FileD} (h : openF fl k n f = (fl', z, y)) (hr : RFiles B w' v fl') (b : Below w.heap.size w w') : ROpenPost B w (openF fl k n f).1 (openF fl k n f).2.1 (openF fl k n f).2.2 (.returned (.tuple #[v, .int .i64 z, .int .i64 y])) w' := by
  rw [h]
  exact ⟨_, rfl, hr, b⟩
set_option maxHeartbeats 1600000 in
theorem rfopen_is {B : Nat} {w : World} {v : Value} {fl : List FileD} (h : RFiles B w v fl) (hB : B ≤ w.heap.size) (hl : fl.length ≤ 64) (hf : FewRefs 1000 fl) (k n f : Int) :
    Calls Try.prog 26 #[v, .int .i64 k, .int .i64 n, .int .i64 f] w (ROpenPost B w (openF fl k n f).1 (openF fl k n f).2.1 (openF fl k n f).2.2) := by
  obtain ⟨a, c, rfl, h1⟩ := id h
  obtain ⟨hr, _, _⟩ := h.reads
  obtain ⟨m, hm⟩ : ∃ m, fl.length = m := ⟨_, rfl⟩
  rw [hm] at h hl ⊢
  have HM := Lib.hid hm
  have H := Lib.hid h
  have HR := Lib.hid hr
  have HF := Lib.hid hf
  clear h1 h hr hm hf
  by_cases hb : badO k n f
  · have HE := Lib.hid (show openF fl k n f = (fl, 0, 1) by unfold openF; rw [if_pos hb])
    have HB := Lib.hid hb
    clear hb
    by_cases h1 : k < 1
    · go_enter Try.func26, Try.ntmps26
      go_wp2
      go_ret3
      exact ROpenPost.of HE.out H.out (Below.refl _ _)
    by_cases h2 : 3 < k
    · go_enter Try.func26, Try.ntmps26
      go_wp2
      go_ret3
      exact ROpenPost.of HE.out H.out (Below.refl _ _)
    by_cases h3 : n < 1
    · go_enter Try.func26, Try.ntmps26
      go_wp2
      go_ret3
      exact ROpenPost.of HE.out H.out (Below.refl _ _)
    by_cases h4 : f < 1
    · go_enter Try.func26, Try.ntmps26
      go_wp2
      go_ret3
      exact ROpenPost.of HE.out H.out (Below.refl _ _)
    have h5 : 7 < f := by have := HB.out; unfold badO at this; omega
    go_enter Try.func26, Try.ntmps26
    go_wp2
    go_ret3
    exact ROpenPost.of HE.out H.out (Below.refl _ _)
  · have HNB := Lib.hid hb
    unfold badO at hb
    have h1 : ¬ k < 1 := by omega
    have h2 : ¬ 3 < k := by omega
    have h3 : ¬ n < 1 := by omega
    have h4 : ¬ f < 1 := by omega
    have h5 : ¬ 7 < f := by omega
    clear hb
    go_enter Try.func26, Try.ntmps26
    go_wp2
    go_loopw [11] (fun i wr => ∃ q : Nat, q ≤ m ∧ i = .int .i64 (q : Int) ∧ Hid (placesL (fun o => !knownB o) fl q = []) ∧ Hid (Below w.heap.size w wr)) (fun i _ => m - (intOf i).toNat)
    case atStart => exact ⟨0, Nat.zero_le _, rfl, Lib.hid rfl, Lib.hid (Below.refl _ _)⟩
    case round =>
      obtain ⟨q, hq, rfl, HP, HB⟩ := hrel
      by_cases hlt : q < m
      · obtain ⟨o, hu⟩ : ∃ o, fl[q]? = some o := ⟨_, List.getElem?_eq_getElem (by rw [HM.out]; exact hlt)⟩
        have hfr := HF.out o (List.mem_of_getElem? hu)
        obtain ⟨b, off, rfl, hb9, hc⟩ := (HR.out.below HB.out).row (filesV_get hu)
        have c4 : wr.cell? ⟨b, off + q * 5 + 4, none⟩ = some (.int .i64 o.refs) := by have := hc 4 _ rfl; rwa [← Nat.add_assoc] at this
        have hi2 : (q : Int) < (m : Int) := by omega
        have hi0 : (0 : Int) ≤ (q : Int) := by omega
        have HLT := Lib.hid hlt
        have HFR := Lib.hid hfr
        have hq64 : q ≤ 64 := by omega
        by_cases hz : o.refs = 0
        · have hk : (!knownB o) = true := by unfold knownB; rw [hz]; rfl
          have hfi : firstI (fun o => !knownB o) fl = (q : Int) := firstI_hit HP.out hu hk
          have HE := Lib.hid (show openF fl k n f = (fl.set q ⟨k, n, 0, f, 1⟩, (q : Int), 0) by
            unfold openF
            rw [if_neg HNB.out, hfi, if_neg (by omega), Int.toNat_natCast])
          have HPUT := Lib.hid (rfput_is (some ⟨b, off, none⟩) c fl q (by rw [HM.out]; exact hlt) (by rw [HM.out]; exact hl) ⟨k, n, 0, f, 1⟩ wr (HR.out.below HB.out))
          rw [HM.out] at HPUT
          unfold fileA at HPUT
          dsimp only at HPUT
          have hzb : (o.refs == 0) = true := by rw [hz]; rfl
          clear hk hfi hu hc hb9 hfr hlt
          go_wp2_with fail
          refine HPUT.out.mono ?_
          rintro e w2 ⟨v2, rfl, hv2, b2⟩
          have HV2 := Lib.hid (show RFiles B w2 v2 (fl.set q ⟨k, n, 0, f, 1⟩) ∧ Below w.heap.size w w2 from ⟨hv2.less (Nat.le_trans hB HB.out.size), below_next HB.out b2⟩)
          clear hv2 b2 c4
          go_wp2
          go_ret3
          exact ROpenPost.of HE.out HV2.out.1 HV2.out.2
        · have hk : (!knownB o) = false := by
            unfold knownB
            have h9 := hfr.1
            have : 0 < o.refs := by omega
            simp [this]
          have HNX := Lib.hid ((placesL_no hu hk).trans HP.out)
          have hzb : (o.refs == 0) = false := by simp [hz]
          clear hk hu hc hb9 hfr hlt
          go_wp2
          have h9 := HLT.out
          go_roundw
          case rel => exact ⟨q + 1, HLT.out, by go_num, HNX, HB⟩
          case measure => simp [intOf]; omega
      · obtain rfl : q = m := by omega
        have hi2 : ¬ (q : Int) < (q : Int) := by omega
        have HE := Lib.hid (show openF fl k n f = (fl, 0, 14) by
          have hp := HP.out
          rw [← HM.out] at hp
          unfold openF firstI
          rw [if_neg HNB.out, hp]
          rfl)
        clear hlt hq
        go_wp2
        go_ret3
        exact ROpenPost.of HE.out (H.out.below HB.out) HB.out
end Go.Proofs.Ytbpklbicbeckdaa
