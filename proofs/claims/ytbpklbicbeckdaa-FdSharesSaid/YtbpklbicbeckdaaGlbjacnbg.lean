/- The document's sets of fds. -/
import Derived.Test.YtbpklbicbeckdaaGjakdjjem
import Derived.Test.YtbpklbicbeckdaaGoejackmk
namespace Go.Proofs.Ytbpklbicbeckdaa
open Go.RowKit Go.Sort
set_option linter.unusedVariables false
set_option linter.unusedSimpArgs false
set_option maxRecDepth 100000

def RSetP (B : Nat) (w : World) (v : Value) (ids : List Int) : Prop := ∃ a c, v = .slice a ids.length c ∧ OwnsV B w 3 v (idV ids)
theorem RSetP.below {B : Nat} {w w' : World} {v : Value} {ids : List Int} (h : RSetP B w v ids) (b : Below w.heap.size w w') : RSetP B w' v ids := by
  obtain ⟨a, c, e, h1⟩ := h
  exact ⟨a, c, e, h1.below b⟩
theorem RSetP.less {B B' : Nat} {w : World} {v : Value} {ids : List Int} (h : RSetP B w v ids) (hB : B' ≤ B) : RSetP B' w v ids := by
  obtain ⟨a, c, e, h1⟩ := h
  exact ⟨a, c, e, h1.less hB⟩
theorem RSetP.reads {B : Nat} {w : World} {a : Option Addr} {n c : Nat} {ids : List Int} (h : RSetP B w (.slice a n c) ids) : ReadsV w a n (idV ids) ∧ ids.length = n := by
  obtain ⟨a', c', e, h1⟩ := h
  obtain ⟨a2, c2, e2, hr, _, _⟩ := h1.reads
  rw [idV_length] at e2 hr
  cases e
  cases e2
  exact ⟨hr, rfl⟩
/-- What a fd may be: an open file's number, or none. -/
def OkS (ids : List Int) : Prop := (∀ x ∈ ids, -1 ≤ x) ∧ 1 ≤ ids.length ∧ ids.length ≤ 16
theorem okS_set {ids : List Int} (h : OkS ids) (i : Nat) {x : Int} (hx : -1 ≤ x) : OkS (ids.set i x) := by
  refine ⟨fun y hy => ?_, by rw [List.length_set]; exact h.2⟩
  rcases List.mem_or_eq_of_mem_set hy with hy | rfl
  · exact h.1 y hy
  · exact hx
theorem repL_set {k n : Nat} (h : n < k) : (repL k n).set n oneV = repL k (n + 1) := by
  unfold repL
  rw [List.set_append_right _ _ (by simp), List.length_replicate, Nat.sub_self, show k - n = (k - (n + 1)) + 1 by omega, List.replicate_succ, List.set_cons_zero, List.replicate_succ', List.append_assoc]
  rfl
theorem repL_idV (k : Nat) : repL k k = idV (List.replicate k (-1)) := by
  rw [repL_full]
  unfold idV oneV
  simp
set_option maxHeartbeats 1600000 in
theorem rsnew_is (n : Int) (w : World) (m : Nat) (hm : clampF 16 n = m) : Calls Try.prog 35 #[.int .i64 n] w fun e w' => ∃ v, e = .returned v ∧ RSetP w.heap.size w' v (List.replicate m (-1)) ∧ Below w.heap.size w w' := by
  have hm2 : m ≤ 16 := by unfold clampF at hm; omega
  have hm1 : 1 ≤ m := by unfold clampF at hm; omega
  have hmk := fun W => run_make_rowI m (by omega) W
  have HM := Lib.hid hm
  clear hm
  have b1 := below_box w (.cells (repL m 0).toArray 3)
  have n1 := OwnsV.new (B := w.heap.size) (w := w) (e := 3) (repL m 0).toArray (Nat.le_refl _) (by simp [repL]; unfold maxLen; omega)
  have el : (repL m 0).toArray.size = m := by simp [repL]
  rw [el] at n1
  obtain ⟨w1, hw1⟩ : ∃ x, w.alloc (.cells (repL m 0).toArray 3) = x := ⟨_, rfl⟩
  rw [hw1] at b1 n1
  obtain ⟨g, hg⟩ : ∃ x, w.heap.size = x := ⟨_, rfl⟩
  have HG := Lib.hid hg
  have N1 : Hid (OwnsV w.heap.size w1 3 (.slice (some ⟨g, 0, none⟩) m m) (repL m 0)) := Lib.hid (by rw [← hg] ; exact n1)
  have B1 : Hid (Below w.heap.size w w1) := Lib.hid b1
  clear b1 n1 el
  go_enter Try.func35, Try.ntmps35
  go_wp2_with fail
  refine (ramong_is n 1 16 w (by decide)).mono ?_
  rintro e w' ⟨rfl, rfl⟩
  have hmm : min (max n 1) 16 = (m : Int) := HM.out
  rw [hmm]
  go_wp2
  clear hw1 hmk hmm
  go_loopw [4] (fun i wr => ∃ k : Nat, k ≤ m ∧ i = .int .i64 (k : Int) ∧ Hid (OwnsV w.heap.size wr 3 (.slice (some ⟨g, 0, none⟩) m m) (repL m k)) ∧ Hid (Below w.heap.size w wr)) (fun i _ => m - (intOf i).toNat)
  case atStart => exact ⟨0, Nat.zero_le _, rfl, N1, B1⟩
  case round =>
    obtain ⟨k, hk, rfl, HO, HB⟩ := hrel
    by_cases hlt : k < m
    · have hi0 : (0 : Int) ≤ (k : Int) := by omega
      have hi2 : (k : Int) < (m : Int) := by omega
      have hrl : (repL m k).length = m := repL_length hk
      have hst := HO.out.stored hrl k oneV
      rw [repL_set hlt] at hst
      unfold oneV at hst
      have hf := HO.out.frozen hrl k
      have hc : ∃ u, wr.cell? ⟨g, k, none⟩ = some u := by
        rcases HO.out.head with ⟨e, _⟩ | ⟨g', c', e, _, _, _, _, hc⟩
        · cases e
        · rw [hrl] at e
          cases e
          exact ⟨_, hc k _ (List.getElem?_eq_getElem (by rw [hrl]; exact hlt))⟩
      obtain ⟨u, hu⟩ := hc
      have HST := Lib.hid hst
      have HLT := Lib.hid hlt
      clear hst hrl hlt
      go_wp2
      have h9 := HLT.out
      go_roundw
      case rel => exact ⟨k + 1, HLT.out, by go_num, Lib.hid HST.out.1, Lib.hid (HB.out.grown HST.out.2 HB.out.size (fun i hi => by obtain rfl := Option.some.inj hi; exact Nat.le_of_eq HG.out))⟩
      case measure => simp [intOf]; omega
    · obtain rfl : k = m := by omega
      have hi2 : ¬ (k : Int) < (k : Int) := by omega
      clear hlt
      rw [repL_idV] at HO
      go_wp2
      go_ret
      have hO := HO.out
      have hB := HB.out
      rw [hg] at hO hB
      exact ⟨.slice (some ⟨g, 0, none⟩) k k, rfl, ⟨some ⟨g, 0, none⟩, k, by rw [List.length_replicate], hO⟩, hB⟩
theorem own_at {B : Nat} {w : World} {e : TypeId} {g n c i : Nat} {l : List Value} (h : OwnsV B w e (.slice (some ⟨g, 0, none⟩) n c) l) (hl : l.length = n) (hi : i < n) : ∃ u, w.cell? ⟨g, i, none⟩ = some u := by
  rcases h.head with ⟨e1, _⟩ | ⟨g', c', e1, _, _, _, _, hc⟩
  · cases e1
  · rw [hl] at e1
    cases e1
    exact ⟨_, hc i _ (List.getElem?_eq_getElem (by rw [hl]; exact hi))⟩
theorem own_someV {B : Nat} {w : World} {e : TypeId} {v : Value} {l : List Value} (h : OwnsV B w e v l) (hl : 1 ≤ l.length) : ∃ g c, v = .slice (some ⟨g, 0, none⟩) l.length c ∧ B ≤ g ∧ g < w.heap.size := by
  rcases h.head with ⟨e1, e2⟩ | ⟨g, c, e1, h1, h2, _⟩
  · rw [e2] at hl; simp at hl
  · exact ⟨g, c, e1, h1, h2⟩
set_option maxHeartbeats 1600000 in
theorem rswith_is (a : Option Addr) (n c : Nat) (ids : List Int) (i : Nat) (hi : i < n) (hn : ids.length = n) (hl : n ≤ 16) (x : Int) (w : World) (hr : ReadsV w a n (idV ids)) :
    Calls Try.prog 75 #[.slice a n c, .int .i64 (i : Int), .int .i64 x] w fun e w' => ∃ v, e = .returned v ∧ RSetP w.heap.size w' v (ids.set i x) ∧ Below w.heap.size w w' := by
  have hil : (idV ids).length = n := by rw [idV_length]; exact hn
  have HIL := Lib.hid hil
  have HN := Lib.hid hn
  have b1 := below_box w (.cells #[] 3)
  obtain ⟨w1, hw1⟩ : ∃ x, w.alloc (.cells #[] 3) = x := ⟨_, rfl⟩
  obtain ⟨g1, hg1⟩ : ∃ x, w.heap.size = x := ⟨_, rfl⟩
  have o1 : OwnsV w.heap.size w1 3 (.slice (some ⟨g1, 0, none⟩) 0 0) [] := by
    rw [← hw1, ← hg1]
    exact OwnsV.new #[] (Nat.le_refl _) (by unfold maxLen; simp)
  rw [hw1] at b1
  have O1 := Lib.hid o1
  have B1 := Lib.hid b1
  have HR1 := Lib.hid (hr.below b1)
  have hi2 : (i : Int) < (n : Int) := by omega
  have hi0 : (0 : Int) ≤ (i : Int) := by omega
  have HI := Lib.hid hi
  clear hil hr o1 b1 hn hi
  go_enter Try.func75, Try.ntmps75
  go_wp2_with (at_builtin; refine wpList_append_vals rfl _ _ 48 rfl w.heap.size 3 (.int .i64 0) 8 Try.underlying48 info_int rfl _ [] (by rfl) O1.out _ _ _ (by rfl) (idV ids) HR1.out (idV_one ids) (by simp; omega) (by unfold maxLen; simp; omega) B1.out.size ?_; intro v2 w2 o2 g2; rw [List.nil_append] at o2; obtain ⟨gq, cq, rfl, hq1, hq2⟩ := own_someV o2 (by have := HIL.out; have := HI.out; omega); rw [HIL.out] at o2 ⊢; have hst := o2.stored HIL.out i (.int .i64 x); rw [idV_set] at hst; have hf := o2.frozen HIL.out i; have hc := own_at o2 HIL.out HI.out; obtain ⟨u, hu⟩ := hc; have HST := Lib.hid hst; have HQ := Lib.hid hq1; have B2 := Lib.hid (B1.out.grown g2 B1.out.size (fun j hj => (O1.out.lt j hj).1)); clear hst o2 g2 hq1 hq2)
  go_ret
  exact ⟨.slice (some ⟨gq, 0, none⟩) n cq, rfl, ⟨some ⟨gq, 0, none⟩, cq, by rw [List.length_set, HN.out], HST.out.1⟩, B2.out.grown HST.out.2 B2.out.size (fun j hj => by obtain rfl := Option.some.inj hj; exact HQ.out)⟩
theorem rsget_is (a : Option Addr) (m c : Nat) (ids : List Int) (hm : ids.length = m) (hok : OkS ids) (n : Int) (w : World) (hr : ReadsV w a m (idV ids)) :
    Calls Try.prog 76 #[.slice a m c, .int .i64 n] w fun e w' => e = .returned (.tuple #[.int .i64 (getS ids n).1, .int .i64 (getS ids n).2]) ∧ w = w' := by
  cases hh : hasS ids n with
  | false =>
    rw [getS_out hh]
    unfold hasS at hh
    by_cases h0 : 0 ≤ n
    · have h1 : (m : Int) ≤ n := by rw [decide_eq_true h0, Bool.true_and] at hh; have := of_decide_eq_false hh; omega
      have h2 : ¬ n < 0 := by omega
      clear hr hh hm hok
      go_enter Try.func76, Try.ntmps76
      go_wp2
      go_ret2
      exact ⟨rfl, rfl⟩
    · have h2 : n < 0 := by omega
      clear hr hh hm h0 hok
      go_enter Try.func76, Try.ntmps76
      go_wp2
      go_ret2
      exact ⟨rfl, rfl⟩
  | true =>
    obtain ⟨i, x, rfl, hx, hi⟩ := hasS_yes hh
    have hx1 := hok.1 x (List.mem_of_getElem? hx)
    obtain ⟨b, off, rfl, hb, hc⟩ := hr.at (idV_get hx)
    have hi2 : (i : Int) < (m : Int) := by omega
    have hi0 : (0 : Int) ≤ (i : Int) := by omega
    have hi3 : ¬ (i : Int) < 0 := by omega
    have hi4 : ¬ (m : Int) ≤ (i : Int) := by omega
    by_cases h1 : x = -1
    · subst h1
      rw [getS_none hx]
      clear hr hh hm hok hx hi hb hx1
      go_enter Try.func76, Try.ntmps76
      go_wp2
      go_ret2
      exact ⟨rfl, rfl⟩
    · rw [getS_yes hx h1]
      have h3 : ¬ x < 0 := by omega
      clear hr hh hm hok hx hi hb hx1 h1
      go_enter Try.func76, Try.ntmps76
      go_wp2
      go_ret2
      exact ⟨rfl, rfl⟩
/-- What a call on a set leaves; its slice is the one that came in, or a new one. -/
def RSPost (B : Nat) (w : World) (v0 : Value) (q : List Int × Int × Int) (e : Ending) (w' : World) : Prop := ∃ v, e = .returned (.tuple #[v, .int .i64 q.2.1, .int .i64 q.2.2]) ∧ RSetP B w' v q.1 ∧ Below w.heap.size w w' ∧ ∀ g0, g0 < w.heap.size → v0.ownBlock ≠ some g0 → v.ownBlock ≠ some g0
theorem RSetP.fresh {B B' : Nat} {w : World} {v v0 : Value} {ids : List Int} (h : RSetP B w v ids) (hB : B' ≤ B) : ∀ g0, g0 < B' → v0.ownBlock ≠ some g0 → v.ownBlock ≠ some g0 := by
  intro g0 h0 _ e
  obtain ⟨a, c, _, h1⟩ := h
  have := (h1.lt g0 e).1
  omega
theorem RSPost.of {B : Nat} {w w' : World} {v v0 : Value} {q : List Int × Int × Int} {ids : List Int} {z y : Int} (h : q = (ids, z, y)) (hr : RSetP B w' v ids) (b : Below w.heap.size w w') (hf : ∀ g0, g0 < w.heap.size → v0.ownBlock ≠ some g0 → v.ownBlock ≠ some g0) : RSPost B w v0 q (.returned (.tuple #[v, .int .i64 z, .int .i64 y])) w' := by
  rw [h]
  exact ⟨_, rfl, hr, b, hf⟩
theorem rstake_is {B : Nat} {w : World} {v : Value} {ids : List Int} (h : RSetP B w v ids) (hB : B ≤ w.heap.size) (hok : OkS ids) (n : Int) :
    Calls Try.prog 39 #[v, .int .i64 n] w (RSPost B w v (takeS ids n)) := by
  obtain ⟨a, c, rfl, h1⟩ := id h
  obtain ⟨hr, _⟩ := h.reads
  obtain ⟨m, hm⟩ : ∃ m, ids.length = m := ⟨_, rfl⟩
  rw [hm] at h hr ⊢
  have hg := rsget_is a m c ids hm hok n w hr
  have H := Lib.hid h
  by_cases hz : getS ids n = (0, 2)
  · have HQ := Lib.hid (show takeS ids n = (ids, 0, 2) by unfold takeS; rw [hz]; rfl)
    rw [hz] at hg
    have HG := Lib.hid hg
    clear hg h hz h1 hr hm hok
    go_enter Try.func39, Try.ntmps39
    go_wp2_with fail
    refine HG.out.mono ?_
    rintro e w' ⟨rfl, rfl⟩
    go_wp2
    go_ret3
    exact RSPost.of HQ.out H.out (Below.refl _ _) (fun _ _ h => h)
  · have hh : hasS ids n = true := by
      cases hb : hasS ids n with
      | true => rfl
      | false => exact absurd (getS_out hb) hz
    obtain ⟨i, x, rfl, hx, hi⟩ := hasS_yes hh
    have hx1 : x ≠ -1 := fun e => hz (getS_none (by rw [hx, e]))
    have HQ := Lib.hid (show takeS ids (i : Int) = (ids.set i (-1), x, 0) by unfold takeS; rw [getS_yes hx hx1, if_pos rfl, Int.toNat_natCast])
    rw [getS_yes hx hx1] at hg
    have HG := Lib.hid hg
    have HW := Lib.hid (rswith_is a m c ids i (by omega) hm (by have := hok.2.2; omega) (-1) w hr)
    clear hg h hz h1 hr hm hok hx hx1 hh hi
    go_enter Try.func39, Try.ntmps39
    go_wp2_with fail
    refine HG.out.mono ?_
    rintro e w' ⟨rfl, rfl⟩
    go_wp2_with fail
    refine HW.out.mono ?_
    rintro e w2 ⟨v2, rfl, hv2, b2⟩
    have HV := Lib.hid (hv2.less hB)
    have HFR := Lib.hid (hv2.fresh (v0 := .slice a m c) (Nat.le_refl _))
    have HB := Lib.hid b2
    clear hv2 b2
    go_wp2
    go_ret3
    exact RSPost.of HQ.out HV.out HB.out HFR.out
set_option maxHeartbeats 1600000 in
theorem rsput_is {B : Nat} {w : World} {v : Value} {ids : List Int} (h : RSetP B w v ids) (hB : B ≤ w.heap.size) (hok : OkS ids) (id_ : Int) :
    Calls Try.prog 37 #[v, .int .i64 id_] w (RSPost B w v (putS ids id_)) := by
  obtain ⟨a, c, rfl, h1⟩ := id h
  obtain ⟨hr, _⟩ := h.reads
  obtain ⟨m, hm⟩ : ∃ m, ids.length = m := ⟨_, rfl⟩
  have hl : m ≤ 16 := by have := hok.2.2; omega
  rw [hm] at h hr ⊢
  have H := Lib.hid h
  have HR := Lib.hid hr
  have HM := Lib.hid hm
  have HO := Lib.hid hok
  clear h h1 hr hm hok
  by_cases h0 : id_ < 0
  · have HQ := Lib.hid (show putS ids id_ = (ids, 0, 1) by unfold putS; rw [if_pos h0])
    go_enter Try.func37, Try.ntmps37
    go_wp2
    go_ret3
    exact RSPost.of HQ.out H.out (Below.refl _ _) (fun _ _ h => h)
  · go_enter Try.func37, Try.ntmps37
    go_wp2
    go_loopw [7] (fun i wr => ∃ q : Nat, q ≤ m ∧ i = .int .i64 (q : Int) ∧ Hid (placesL noneB ids q = []) ∧ wr = w) (fun i _ => m - (intOf i).toNat)
    case atStart => exact ⟨0, Nat.zero_le _, rfl, Lib.hid rfl, rfl⟩
    case round =>
      obtain ⟨q, hq, rfl, HP, rfl⟩ := hrel
      by_cases hlt : q < m
      · obtain ⟨x, hx⟩ : ∃ x, ids[q]? = some x := ⟨_, List.getElem?_eq_getElem (by rw [HM.out]; exact hlt)⟩
        have hx1 := HO.out.1 x (List.mem_of_getElem? hx)
        obtain ⟨b, off, rfl, hb9, hc⟩ := HR.out.at (idV_get hx)
        have hi2 : (q : Int) < (m : Int) := by omega
        have hi0 : (0 : Int) ≤ (q : Int) := by omega
        have HLT := Lib.hid hlt
        by_cases hz : x = -1
        · subst hz
          have hfi : firstI noneB ids = (q : Int) := firstI_hit HP.out hx rfl
          have HQ := Lib.hid (show putS ids id_ = (ids.set q id_, (q : Int), 0) by unfold putS; rw [if_neg (by omega), hfi, if_neg (by omega), Int.toNat_natCast])
          have HW := Lib.hid (rswith_is (some ⟨b, off, none⟩) m c ids q hlt HM.out hl id_ wr HR.out)
          clear hfi hx hb9 hlt hx1
          go_wp2_with fail
          refine HW.out.mono ?_
          rintro e w2 ⟨v2, rfl, hv2, b2⟩
          have HV := Lib.hid (hv2.less hB)
          have HFR := Lib.hid (hv2.fresh (v0 := .slice (some ⟨b, off, none⟩) m c) (Nat.le_refl _))
          have HB2 := Lib.hid b2
          clear hv2 b2 hc
          go_wp2
          go_ret3
          exact RSPost.of HQ.out HV.out HB2.out HFR.out
        · have hn1 : noneB x = false := by unfold noneB; simp [hz]
          have HNX := Lib.hid ((placesL_no hx hn1).trans HP.out)
          have hx2 : ¬ x < 0 := by omega
          clear hx hb9 hlt hn1 hx1
          go_wp2
          have h9 := HLT.out
          go_roundw
          case rel => exact ⟨q + 1, HLT.out, by go_num, HNX, by first | trivial | rfl⟩
          case measure => simp [intOf]; omega
      · obtain rfl : q = m := by omega
        have hi2 : ¬ (q : Int) < (q : Int) := by omega
        have HQ := Lib.hid (show putS ids id_ = (ids, 0, 13) by
          have hp := HP.out
          rw [← HM.out] at hp
          unfold putS firstI
          rw [if_neg (by omega), hp]
          rfl)
        clear hlt hq
        go_wp2
        go_ret3
        exact RSPost.of HQ.out H.out (Below.refl _ _) (fun _ _ h => h)
set_option maxHeartbeats 1600000 in
theorem rsat_is {B : Nat} {w : World} {v : Value} {ids : List Int} (h : RSetP B w v ids) (hB : B ≤ w.heap.size) (hok : OkS ids) (n id_ : Int) :
    Calls Try.prog 41 #[v, .int .i64 n, .int .i64 id_] w (RSPost B w v (atS ids n id_)) := by
  obtain ⟨a, c, rfl, h1⟩ := id h
  obtain ⟨hr, _⟩ := h.reads
  obtain ⟨m, hm⟩ : ∃ m, ids.length = m := ⟨_, rfl⟩
  have hl : m ≤ 16 := by have := hok.2.2; omega
  rw [hm] at h hr ⊢
  have H := Lib.hid h
  cases hh : hasS ids n with
  | false =>
    have HQ := Lib.hid (show atS ids n id_ = (ids, 0, 2) by unfold atS; rw [if_pos hh])
    unfold hasS at hh
    by_cases h0 : 0 ≤ n
    · have h3 : (m : Int) ≤ n := by rw [decide_eq_true h0, Bool.true_and] at hh; have := of_decide_eq_false hh; omega
      have h2 : ¬ n < 0 := by omega
      clear hr hh hm hok h h1
      go_enter Try.func41, Try.ntmps41
      go_wp2
      go_ret3
      exact RSPost.of HQ.out H.out (Below.refl _ _) (fun _ _ h => h)
    · have h2 : n < 0 := by omega
      clear hr hh hm h0 hok h h1
      go_enter Try.func41, Try.ntmps41
      go_wp2
      go_ret3
      exact RSPost.of HQ.out H.out (Below.refl _ _) (fun _ _ h => h)
  | true =>
    obtain ⟨i, x, rfl, hx, hi⟩ := hasS_yes hh
    obtain ⟨b, off, rfl, hb, hc⟩ := hr.at (idV_get hx)
    have hi2 : (i : Int) < (m : Int) := by omega
    have hi0 : (0 : Int) ≤ (i : Int) := by omega
    have hi3 : ¬ (i : Int) < 0 := by omega
    have hi4 : ¬ (m : Int) ≤ (i : Int) := by omega
    by_cases hid : id_ < 0
    · have HQ := Lib.hid (show atS ids (i : Int) id_ = (ids, 0, 1) by unfold atS; rw [hh, if_neg (by decide), if_pos hid])
      clear hr hh hm hok h h1 hx hi hb
      go_enter Try.func41, Try.ntmps41
      go_wp2
      go_ret3
      exact RSPost.of HQ.out H.out (Below.refl _ _) (fun _ _ h => h)
    · have HQ := Lib.hid (show atS ids (i : Int) id_ = (ids.set i id_, x, 0) by unfold atS; rw [hh, if_neg (by decide), if_neg hid, Int.toNat_natCast, hx]; rfl)
      have HW := Lib.hid (rswith_is (some ⟨b, off, none⟩) m c ids i (by omega) hm hl id_ w.drew (hr.below (below_drew w)))
      have HBW := Lib.hid hb
      clear hr hh hm hok h h1 hx hi hb
      go_enter Try.func41, Try.ntmps41
      go_wp2_with fail
      refine wp_region_held_drew (S := fun W => W.cell? ⟨b, off + i, none⟩ = some (.int .i64 x)) (by kernel_rfl) (show w.drew.cell? ⟨b, off + i, none⟩ = some (.int .i64 x) from hc) (fun hHeld => ?_)
      refine wpAnyH_take (i := 0) (v := .slice (some ⟨b, off, none⟩) m c) rfl (by kernel_rfl) (by kernel_rfl) (by kernel_rfl) (fun _ _ _ h => h) (Or.inl ⟨by rfl, by intro W hSw; clear hSw; go_simp⟩) (by assumption) ?_
      try simp only [List.getElem_toArray, List.getElem_cons_zero, List.getElem_cons_succ, Act.put, List.setIfInBounds_toArray, List.set_cons_zero, List.set_cons_succ]
      refine wpAnyH_take (i := 1) (v := .int .i64 (i : Int)) rfl (by kernel_rfl) (by kernel_rfl) (by kernel_rfl) (fun _ _ _ h => h) (Or.inl ⟨by rfl, by intro W hSw; clear hSw; go_simp⟩) (by assumption) ?_
      try simp only [List.getElem_toArray, List.getElem_cons_zero, List.getElem_cons_succ, Act.put, List.setIfInBounds_toArray, List.set_cons_zero, List.set_cons_succ]
      refine wpAnyH_take (i := 2) (v := .int .i64 id_) rfl (by kernel_rfl) (by kernel_rfl) (by kernel_rfl) (fun _ _ _ h => h) (Or.inl ⟨by rfl, by intro W hSw; clear hSw; go_simp⟩) (by assumption) ?_
      try simp only [List.getElem_toArray, List.getElem_cons_zero, List.getElem_cons_succ, Act.put, List.setIfInBounds_toArray, List.set_cons_zero, List.set_cons_succ]
      refine wpAnyH_take (i := 4) (v := .slice (some ⟨b, off, none⟩) m c) rfl (by kernel_rfl) (by kernel_rfl) (by kernel_rfl) (fun _ _ _ h => h) (Or.inl ⟨by rfl, by intro W hSw; clear hSw; go_simp⟩) (by assumption) ?_
      try simp only [List.getElem_toArray, List.getElem_cons_zero, List.getElem_cons_succ, Act.put, List.setIfInBounds_toArray, List.set_cons_zero, List.set_cons_succ]
      refine wpAnyH_take (i := 5) (v := .int .i64 (i : Int)) rfl (by kernel_rfl) (by kernel_rfl) (by kernel_rfl) (fun _ _ _ h => h) (Or.inl ⟨by rfl, by intro W hSw; clear hSw; go_simp⟩) (by assumption) ?_
      try simp only [List.getElem_toArray, List.getElem_cons_zero, List.getElem_cons_succ, Act.put, List.setIfInBounds_toArray, List.set_cons_zero, List.set_cons_succ]
      refine wpAnyH_take (i := 6) (v := .pointer (some ⟨b, off + i, none⟩)) rfl (by kernel_rfl) (by kernel_rfl) (by kernel_rfl) (fun _ _ _ h => h) (Or.inl ⟨by rfl, by intro W hSw; clear hSw; go_simp⟩) (by assumption) ?_
      try simp only [List.getElem_toArray, List.getElem_cons_zero, List.getElem_cons_succ, Act.put, List.setIfInBounds_toArray, List.set_cons_zero, List.set_cons_succ]
      refine wpAnyH_take (i := 7) (v := .int .i64 x) rfl (by kernel_rfl) (by kernel_rfl) (by kernel_rfl) (fun _ _ _ h => h) (Or.inl ⟨by rfl, by intro W hSw; go_simp⟩) (by assumption) ?_
      try simp only [List.getElem_toArray, List.getElem_cons_zero, List.getElem_cons_succ, Act.put, List.setIfInBounds_toArray, List.set_cons_zero, List.set_cons_succ]
      refine wpAnyH_ready (rs := [3]) (by kernel_rfl) (by simp) ?_
      refine AllReadyH.cons rfl (fun K hK => ?_) AllReadyH.nil
      go_simp
      refine HW.out.mono ?_
      rintro e w2 ⟨v2, rfl, hv2, b2⟩
      have hc2 : w2.cell? ⟨b, off + i, none⟩ = some (.int .i64 x) := (b2.cell (p := ⟨b, off + i, none⟩) HBW.out).trans hc
      have HV := Lib.hid (hv2.less (show B ≤ w.drew.heap.size from hB))
      have HFR : Hid (∀ g0, g0 < w.heap.size → (Value.slice (some ⟨b, off, none⟩) m c).ownBlock ≠ some g0 → v2.ownBlock ≠ some g0) := Lib.hid (hv2.fresh (show w.heap.size ≤ w.drew.heap.size from Nat.le_refl _))
      have HB2 : Hid (Below w.heap.size w w2) := Lib.hid (below_next (below_drew w) b2)
      clear hv2 b2
      dsimp only
      refine hK.out _ _ hc2 (fun hH2 => ?_)
      clear hK K
      try simp only [List.getElem_toArray, List.getElem_cons_zero, List.getElem_cons_succ, Act.put, List.setIfInBounds_toArray, List.set_cons_zero, List.set_cons_succ]
      refine wpAnyH_take (i := 8) (v := v2) rfl (by kernel_rfl) (by kernel_rfl) (by kernel_rfl) (fun _ _ _ h => h) (Or.inl ⟨by rfl, by intro W hSw; clear hSw; go_simp⟩) (by assumption) ?_
      try simp only [List.getElem_toArray, List.getElem_cons_zero, List.getElem_cons_succ, Act.put, List.setIfInBounds_toArray, List.set_cons_zero, List.set_cons_succ]
      refine wpAnyH_take (i := 9) (v := .int .i64 x) rfl (by kernel_rfl) (by kernel_rfl) (by kernel_rfl) (fun _ _ _ h => h) (Or.inl ⟨by rfl, by intro W hSw; clear hSw; go_simp⟩) (by assumption) ?_
      try simp only [List.getElem_toArray, List.getElem_cons_zero, List.getElem_cons_succ, Act.put, List.setIfInBounds_toArray, List.set_cons_zero, List.set_cons_succ]
      refine wpAnyH_take (i := 10) (v := .int .i64 0) rfl (by kernel_rfl) (by kernel_rfl) (by kernel_rfl) (fun _ _ _ h => h) (Or.inl ⟨by rfl, by intro W hSw; clear hSw; go_simp⟩) (by assumption) ?_
      try simp only [List.getElem_toArray, List.getElem_cons_zero, List.getElem_cons_succ, Act.put, List.setIfInBounds_toArray, List.set_cons_zero, List.set_cons_succ]
      refine wpAnyH_done (by kernel_rfl) ?_ _
      clear hHeld hH2 hc hc2
      go_wp2
      go_ret3
      exact RSPost.of HQ.out HV.out HB2.out HFR.out
end Go.Proofs.Ytbpklbicbeckdaa
