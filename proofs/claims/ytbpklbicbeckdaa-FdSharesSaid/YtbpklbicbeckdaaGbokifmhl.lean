/- What one process knows: a set in memory; NewSet, has, Get, Put, Take, At. -/
import Derived.Test.YtbpklbicbeckdaaGcbakdejc
import Derived.Test.YtbpklbicbeckdaaGhippfjmc
namespace Go.Proofs.Ytbpklbicbeckdaa
open Go.RowKit Go.Sort
set_option linter.unusedVariables false
set_option linter.unusedSimpArgs false
set_option maxRecDepth 100000

def idV (l : List Int) : List Value := l.map (Value.int .i64)
theorem idV_length (l : List Int) : (idV l).length = l.length := by unfold idV; rw [List.length_map]
theorem idV_get {l : List Int} {i : Nat} {x : Int} (h : l[i]? = some x) : (idV l)[i]? = some (.int .i64 x) := by unfold idV; rw [List.getElem?_map, h]; rfl
theorem idV_set (l : List Int) (i : Nat) (x : Int) : (idV l).set i (.int .i64 x) = idV (l.set i x) := by unfold idV; rw [List.map_set]
theorem idV_one (l : List Int) : OneCells (idV l) := by
  intro u hu
  unfold idV at hu
  obtain ⟨x, _, rfl⟩ := List.mem_map.1 hu
  rfl
def IsSet (B : Nat) (w : World) (g gs cap : Nat) (ids : List Int) : Prop :=
  w.heap[g]? = some (.cells #[.slice (some ⟨gs, 0, none⟩) ids.length cap] 139 (0, 0)) ∧ OwnsV B w 3 (.slice (some ⟨gs, 0, none⟩) ids.length cap) (idV ids) ∧ B ≤ g ∧ 1 ≤ ids.length ∧ ids.length ≤ 16
theorem OwnsV.apartS {B : Nat} {w : World} {e t : TypeId} {v : Value} {l : List Value} {g : Nat} {C : Array Value} {fr : Nat × Nat} (h : OwnsV B w e v l) (hg : w.heap[g]? = some (.cells C t fr)) (hne : e ≠ t) : v.ownBlock ≠ some g := by
  obtain ⟨_, h⟩ := h
  rcases h with ⟨rfl, _⟩ | ⟨g', cap, cur, rfl, _, hg', _⟩
  · intro h; cases h
  · intro h
    obtain rfl : g' = g := by simpa [Value.ownBlock] using h
    rw [hg] at hg'
    simp at hg'
    exact hne hg'.2.1.symm
theorem IsSet.apart {B : Nat} {w : World} {g gs cap : Nat} {ids : List Int} (h : IsSet B w g gs cap ids) : gs ≠ g := by
  have := h.2.1.apartS h.1 (by decide)
  intro e
  exact this (by rw [e]; rfl)
theorem IsSet.below {B : Nat} {w w' : World} {g gs cap : Nat} {ids : List Int} (h : IsSet B w g gs cap ids) (b : Below w.heap.size w w') : IsSet B w' g gs cap ids :=
  ⟨(b.block g (Array.getElem?_eq_some_iff.1 h.1).1).trans h.1, h.2.1.below b, h.2.2⟩
theorem IsSet.less {B B' : Nat} {w : World} {g gs cap : Nat} {ids : List Int} (h : IsSet B w g gs cap ids) (hB : B' ≤ B) : IsSet B' w g gs cap ids := ⟨h.1, h.2.1.less hB, Nat.le_trans hB h.2.2.1, h.2.2.2⟩
theorem set_facts {B : Nat} {w : World} {g gs cap : Nat} {ids : List Int} (h : IsSet B w g gs cap ids) : w.cell? ⟨g, 0, none⟩ = some (.slice (some ⟨gs, 0, none⟩) ids.length cap) := by
  unfold World.cell?; rw [h.1]; rfl
theorem set_lt {B : Nat} {w : World} {g gs cap : Nat} {ids : List Int} (h : IsSet B w g gs cap ids) : g < w.heap.size ∧ gs < w.heap.size ∧ B ≤ gs := ⟨(Array.getElem?_eq_some_iff.1 h.1).1, (h.2.1.lt gs rfl).2, (h.2.1.lt gs rfl).1⟩
theorem set_cell {B : Nat} {w : World} {g gs cap : Nat} {ids : List Int} (h : IsSet B w g gs cap ids) {i : Nat} {x : Int} (hx : ids[i]? = some x) : w.cell? ⟨gs, i, none⟩ = some (.int .i64 x) := by
  have hh := h.2.1.head
  rw [idV_length] at hh
  rcases hh with ⟨e, _⟩ | ⟨g', cap', e, _, _, hc⟩
  · cases e
  · cases e
    exact hc.2.2 i _ (idV_get hx)
theorem set_free {B : Nat} {w : World} {g gs cap : Nat} {ids : List Int} (h : IsSet B w g gs cap ids) (j : Nat) : w.frozen? ⟨gs, j, none⟩ = false := h.2.1.frozen (idV_length ids) j
theorem set_store {B : Nat} {w : World} {g gs cap : Nat} {ids : List Int} (h : IsSet B w g gs cap ids) (i : Nat) (x : Int) :
    IsSet B (w.setCell ⟨gs, i, none⟩ (.int .i64 x)) g gs cap (ids.set i x) ∧ w.grownBy (w.setCell ⟨gs, i, none⟩ (.int .i64 x)) (some gs) := by
  have hs := h.2.1.stored (idV_length ids) i (.int .i64 x)
  rw [idV_set] at hs
  refine ⟨⟨?_, ?_, h.2.2.1, ?_⟩, hs.2⟩
  · rw [List.length_set, ← h.1]
    exact hs.2.block g (set_lt h).1 (by rw [Ne, Option.some.injEq]; exact fun e => h.apart e.symm)
  · rw [List.length_set]
    exact hs.1
  · rw [List.length_set]; exact h.2.2.2
theorem set_reads {B : Nat} {w : World} {g gs cap : Nat} {ids : List Int} (h : IsSet B w g gs cap ids) : ReadsV w (some ⟨gs, 0, none⟩) ids.length (idV ids) := by
  obtain ⟨a, c, hv, hr, _, _⟩ := h.2.1.reads
  rw [idV_length] at hv hr
  obtain ⟨rfl, _, _⟩ := Value.slice.inj hv
  exact hr
def SNewPost (w : World) (ids : List Int) (e : Ending) (w' : World) : Prop := ∃ g gs cap, e = .returned (.pointer (some ⟨g, 0, none⟩)) ∧ IsSet w.heap.size w' g gs cap ids ∧ Below w.heap.size w w'
set_option maxHeartbeats 1600000 in
theorem snew_is (n : Int) (w : World) (m : Nat) (hm : clampF 16 n = m) : Calls Try.prog 34 #[.int .i64 n] w (SNewPost w (List.replicate m (-1))) := by
  have hm2 : m ≤ 16 := by unfold clampF at hm; omega
  have hm1 : 1 ≤ m := by unfold clampF at hm; omega
  have HM := Lib.hid hm
  have HN := Lib.hid (And.intro hm1 hm2)
  clear hm
  have b1 := below_box w (.cells #[oneV] 3)
  have n1 := heap_alloc_new w (.cells #[oneV] 3)
  obtain ⟨w1, hw1⟩ : ∃ x, w.alloc (.cells #[.int .i64 (-1)] 3) = x := ⟨_, rfl⟩
  rw [show w.alloc (.cells #[oneV] 3) = w1 from hw1] at b1 n1
  have B1 := Lib.hid b1
  have N1 := Lib.hid n1
  obtain ⟨g0, hg0⟩ : ∃ x, w.heap.size = x := ⟨_, rfl⟩
  have HG0 := Lib.hid hg0
  rw [hg0] at N1
  clear b1 n1
  go_enter Try.func34, Try.ntmps34
  go_wp2_with fail
  refine (fupTo_is 16 n _).mono ?_
  rintro e w' ⟨rfl, rfl⟩
  rw [HM.out]
  go_wp2_with fail
  refine (repeat_is m HN.out.1 HN.out.2 g0 w1 N1.out).mono ?_
  rintro e w2 ⟨gr, rfl, hgr, hr, b2⟩
  have HR := Lib.hid hr
  have HB := Lib.hid (below_next B1.out b2)
  have HGR : Hid (w.heap.size ≤ gr) := Lib.hid (Nat.le_trans B1.out.size hgr)
  clear hr b2 hgr hw1 hg0
  go_wp2
  go_ret
  refine ⟨w2.heap.size, gr, m, rfl, ?_, HB.out.alloc HB.out.size _⟩
  have e1 : (List.replicate m (-1 : Int)).length = m := List.length_replicate
  have hown : OwnsV w.heap.size w2 3 (.slice (some ⟨gr, 0, none⟩) m m) (idV (List.replicate m (-1))) := by
    have e2 : (idV (List.replicate m (-1 : Int))).length = m := by rw [idV_length, e1]
    unfold OwnsV
    rw [e2]
    refine ⟨by rw [e2, Nat.mul_one], .inr ⟨gr, m, _, rfl, HGR.out, HR.out, Nat.le_refl _, by have := HN.out.2; unfold maxLen; omega, by simp, ?_⟩⟩
    rw [Nat.mul_one]
    unfold idV oneV
    simp
  refine ⟨?_, ?_, HB.out.size, by rw [e1]; exact HN.out⟩
  · rw [e1]
    exact heap_alloc_new w2 _
  · rw [e1]
    exact hown.alloc _
def hasS (ids : List Int) (n : Int) : Bool := decide (0 ≤ n) && decide (n < (ids.length : Int))
theorem shas_is {B : Nat} {w : World} {g gs cap : Nat} {ids : List Int} (h : IsSet B w g gs cap ids) (n : Int) :
    Calls Try.prog 77 #[.pointer (some ⟨g, 0, none⟩), .int .i64 n] w fun e w' => e = .returned (.bool (hasS ids n)) ∧ w = w' := by
  have c0 := set_facts h
  clear h
  unfold hasS
  by_cases h0 : 0 ≤ n
  · by_cases h1 : n < (ids.length : Int)
    · rw [decide_eq_true h0, decide_eq_true h1]
      go_enter Try.func77, Try.ntmps77
      go_wp2
      go_ret
      exact ⟨rfl, rfl⟩
    · rw [decide_eq_true h0, decide_eq_false h1]
      go_enter Try.func77, Try.ntmps77
      go_wp2
      go_ret
      exact ⟨rfl, rfl⟩
  · rw [decide_eq_false h0]
    go_enter Try.func77, Try.ntmps77
    go_wp2
    go_ret
    exact ⟨rfl, rfl⟩
/-- Which open file a fd is. -/
def getS (ids : List Int) (n : Int) : Int × Int := if 0 ≤ n then (match ids[n.toNat]? with | some x => if x = -1 then (0, 2) else (x, 0) | none => (0, 2)) else (0, 2)
theorem getS_yes {ids : List Int} {i : Nat} {x : Int} (h : ids[i]? = some x) (hx : x ≠ -1) : getS ids (i : Int) = (x, 0) := by
  unfold getS
  rw [if_pos (by omega), Int.toNat_natCast, h]
  simp [hx]
theorem getS_none {ids : List Int} {i : Nat} (h : ids[i]? = some (-1)) : getS ids (i : Int) = (0, 2) := by
  unfold getS
  rw [if_pos (by omega), Int.toNat_natCast, h]
  rfl
theorem getS_out {ids : List Int} {n : Int} (h : hasS ids n = false) : getS ids n = (0, 2) := by
  unfold getS
  unfold hasS at h
  by_cases h0 : 0 ≤ n
  · rw [if_pos h0]
    rw [decide_eq_true h0, Bool.true_and] at h
    have := of_decide_eq_false h
    rw [List.getElem?_eq_none (by omega)]
  · rw [if_neg h0]
theorem hasS_yes {ids : List Int} {n : Int} (h : hasS ids n = true) : ∃ (i : Nat) (x : Int), n = (i : Int) ∧ ids[i]? = some x ∧ i < ids.length := by
  unfold hasS at h
  rw [Bool.and_eq_true] at h
  have h0 := of_decide_eq_true h.1
  have h1 := of_decide_eq_true h.2
  exact ⟨n.toNat, ids[n.toNat]'(by omega), by omega, List.getElem?_eq_getElem _, by omega⟩
set_option maxHeartbeats 1000000 in
theorem sget_is {B : Nat} {w : World} {g gs cap : Nat} {ids : List Int} (h : IsSet B w g gs cap ids) (n : Int) :
    Calls Try.prog 44 #[.pointer (some ⟨g, 0, none⟩), .int .i64 n] w fun e w' => e = .returned (.tuple #[.int .i64 (getS ids n).1, .int .i64 (getS ids n).2]) ∧ w = w' := by
  have c0 := set_facts h
  have hs := shas_is h n
  have hlen := h.2.2.2.2
  cases hh : hasS ids n with
  | false =>
    rw [hh] at hs
    have HS := Lib.hid hs
    rw [getS_out hh]
    clear hs h hh
    go_enter Try.func44, Try.ntmps44
    go_wp2_with fail
    refine HS.out.mono ?_
    rintro e w' ⟨rfl, rfl⟩
    go_wp2
    go_ret2
    exact ⟨rfl, rfl⟩
  | true =>
    rw [hh] at hs
    have HS := Lib.hid hs
    obtain ⟨i, x, rfl, hx, hi⟩ := hasS_yes hh
    have c1 := set_cell h hx
    have hi2 : (i : Int) < (ids.length : Int) := by omega
    have hi0 : (0 : Int) ≤ (i : Int) := by omega
    by_cases h1 : x = -1
    · subst h1
      rw [getS_none hx]
      clear hs h hh hx hi
      go_enter Try.func44, Try.ntmps44
      go_wp2_with fail
      refine HS.out.mono ?_
      rintro e w' ⟨rfl, rfl⟩
      go_wp2
      go_ret2
      exact ⟨rfl, rfl⟩
    · rw [getS_yes hx h1]
      have hxb : (x == -1) = false := by simp [h1]
      clear hs h hh hx hi
      go_enter Try.func44, Try.ntmps44
      go_wp2_with fail
      refine HS.out.mono ?_
      rintro e w' ⟨rfl, rfl⟩
      go_wp2
      go_ret2
      exact ⟨rfl, rfl⟩
def SetPost (B : Nat) (w : World) (g gs cap : Nat) (ids : List Int) (v : Value) (e : Ending) (w' : World) : Prop :=
  e = .returned v ∧ IsSet B w' g gs cap ids ∧ w.grownBy w' (some gs)
def takeS (ids : List Int) (n : Int) : List Int × Int × Int := if (getS ids n).2 = 0 then (ids.set n.toNat (-1), (getS ids n).1, 0) else (ids, 0, 2)
set_option maxHeartbeats 1000000 in
theorem stake_is {B : Nat} {w : World} {g gs cap : Nat} {ids : List Int} (h : IsSet B w g gs cap ids) (n : Int) :
    Calls Try.prog 38 #[.pointer (some ⟨g, 0, none⟩), .int .i64 n] w (SetPost B w g gs cap (takeS ids n).1 (.tuple #[.int .i64 (takeS ids n).2.1, .int .i64 (takeS ids n).2.2])) := by
  have c0 := set_facts h
  have hg := sget_is h n
  have H := Lib.hid h
  have hlen := h.2.2.2.2
  by_cases hz : getS ids n = (0, 2)
  · have hq : takeS ids n = (ids, 0, 2) := by unfold takeS; rw [hz]; rfl
    rw [hq]
    rw [hz] at hg
    have HG := Lib.hid hg
    clear hg h hz hq
    go_enter Try.func38, Try.ntmps38
    go_wp2_with fail
    refine HG.out.mono ?_
    rintro e w' ⟨rfl, rfl⟩
    go_wp2
    go_ret2
    exact ⟨rfl, H.out, grown_same _ _⟩
  · have hh : hasS ids n = true := by
      cases hb : hasS ids n with
      | true => rfl
      | false => exact absurd (getS_out hb) hz
    obtain ⟨i, x, rfl, hx, hi⟩ := hasS_yes hh
    have hx1 : x ≠ -1 := fun e => hz (getS_none (by rw [hx, e]))
    have hq : takeS ids (i : Int) = (ids.set i (-1), x, 0) := by unfold takeS; rw [getS_yes hx hx1, if_pos rfl, Int.toNat_natCast]
    rw [hq]
    rw [getS_yes hx hx1] at hg
    have HG := Lib.hid hg
    have c1 := set_cell h hx
    have f1 := set_free h i
    have hst := Lib.hid (set_store h i (-1))
    have hi2 : (i : Int) < (ids.length : Int) := by omega
    have hi0 : (0 : Int) ≤ (i : Int) := by omega
    clear hg h hz hq hh hx hi hx1
    go_enter Try.func38, Try.ntmps38
    go_wp2_with fail
    refine HG.out.mono ?_
    rintro e w' ⟨rfl, rfl⟩
    go_wp2
    go_ret2
    exact ⟨rfl, hst.out.1, hst.out.2⟩
def atS (ids : List Int) (n id : Int) : List Int × Int × Int := if hasS ids n = false then (ids, 0, 2) else if id < 0 then (ids, 0, 1) else (ids.set n.toNat id, ids[n.toNat]?.getD 0, 0)
set_option maxHeartbeats 1000000 in
theorem sat_is {B : Nat} {w : World} {g gs cap : Nat} {ids : List Int} (h : IsSet B w g gs cap ids) (n id : Int) :
    Calls Try.prog 40 #[.pointer (some ⟨g, 0, none⟩), .int .i64 n, .int .i64 id] w (SetPost B w g gs cap (atS ids n id).1 (.tuple #[.int .i64 (atS ids n id).2.1, .int .i64 (atS ids n id).2.2])) := by
  have c0 := set_facts h
  have hs := shas_is h n
  have H := Lib.hid h
  have hlen := h.2.2.2.2
  cases hh : hasS ids n with
  | false =>
    have hq : atS ids n id = (ids, 0, 2) := by unfold atS; rw [if_pos hh]
    rw [hq]
    rw [hh] at hs
    have HS := Lib.hid hs
    clear hs h hh hq
    go_enter Try.func40, Try.ntmps40
    go_wp2_with fail
    refine HS.out.mono ?_
    rintro e w' ⟨rfl, rfl⟩
    go_wp2
    go_ret2
    exact ⟨rfl, H.out, grown_same _ _⟩
  | true =>
    rw [hh] at hs
    have HS := Lib.hid hs
    by_cases hid : id < 0
    · have hq : atS ids n id = (ids, 0, 1) := by unfold atS; rw [hh, if_neg (by decide), if_pos hid]
      rw [hq]
      clear hs h hh hq
      go_enter Try.func40, Try.ntmps40
      go_wp2_with fail
      refine HS.out.mono ?_
      rintro e w' ⟨rfl, rfl⟩
      go_wp2
      go_ret2
      exact ⟨rfl, H.out, grown_same _ _⟩
    · obtain ⟨i, x, rfl, hx, hi⟩ := hasS_yes hh
      have hq : atS ids (i : Int) id = (ids.set i id, x, 0) := by unfold atS; rw [hh, if_neg (by decide), if_neg hid, Int.toNat_natCast, hx]; rfl
      rw [hq]
      have c1 := set_cell h hx
      have f1 := set_free h i
      have hst := Lib.hid (set_store h i id)
      have hi2 : (i : Int) < (ids.length : Int) := by omega
      have hi0 : (0 : Int) ≤ (i : Int) := by omega
      clear hs h hh hq hx hi
      go_enter Try.func40, Try.ntmps40
      go_wp2_with fail
      refine HS.out.mono ?_
      rintro e w' ⟨rfl, rfl⟩
      go_wp2
      go_ret2
      exact ⟨rfl, hst.out.1, hst.out.2⟩
end Go.Proofs.Ytbpklbicbeckdaa
