/- The document's table of processes: Children; the law's ints. -/
import Derived.Test.YtnengblmcfiajaaGgdbfmhdg
namespace Go.Proofs.Ytnengblmcfiajaa
open Go.RowKit Go.Sort
set_option linter.unusedVariables false
set_option linter.unusedSimpArgs false
set_option maxRecDepth 100000

set_option maxHeartbeats 1600000 in
theorem rchildren_is {B : Nat} {w : World} {v : Value} {T : TabD} (h : RTab B w v T) (n : Int) :
    Calls Try.prog 77 #[v, .int .i64 n] w (ThosePost w (parentB n) T.list) := by
  obtain ⟨a, c, rfl, hr, hc, o1, o2, o3, o4, o5, o6, o7⟩ := h.reads
  have b0 := below_box w (.cells #[.slice a T.list.length c, .int .i64 T.most, .int .i64 T.last, .int .i64 T.now] 28)
  have n0 : BoxR _ _ _ _ _ _ := heap_alloc_new w (.cells #[.slice a T.list.length c, .int .i64 T.most, .int .i64 T.last, .int .i64 T.now] 28)
  obtain ⟨w1, hw1⟩ : ∃ x, w.alloc (.cells #[.slice a T.list.length c, .int .i64 T.most, .int .i64 T.last, .int .i64 T.now] 28) = x := ⟨_, rfl⟩
  rw [hw1] at b0 n0
  have HR := Lib.hid (hr.below b0)
  have HBX := Lib.hid n0
  have HB0 := Lib.hid b0
  obtain ⟨l, hl⟩ : ∃ l, T.list = l := ⟨_, rfl⟩
  rw [hl] at HR HBX hw1 o4 ⊢
  obtain ⟨L, hL⟩ : ∃ L, l.length = L := ⟨_, rfl⟩
  have HL := Lib.hid hL
  have HE : Hid (ThosePost w (parentB n) l = fun e w' => ∃ v, e = .returned v ∧ OwnsV w.heap.size w' 3 v (intsV (thoseL (parentB n) (l.take L))) ∧ Below w.heap.size w w') := by show _ = _; rw [← hL, List.take_length]; rfl
  unfold rtabV
  rw [hL] at HBX hw1 o4 ⊢
  obtain ⟨bp, hbp⟩ : ∃ x, w.heap.size = x := ⟨_, rfl⟩
  rw [hbp] at HBX
  have HBP := Lib.hid hbp
  obtain ⟨M1, hM1⟩ : ∃ x, T.most = x := ⟨_, rfl⟩
  obtain ⟨M2, hM2⟩ : ∃ x, T.last = x := ⟨_, rfl⟩
  obtain ⟨M3, hM3⟩ : ∃ x, T.now = x := ⟨_, rfl⟩
  rw [hM1, hM2, hM3] at HBX hw1
  rw [hM1, hM2, hM3]
  clear hr hc b0 n0 h o1 o2 o3 o5 o6 o7 hL hM1 hM2 hM3 hl
  go_enter Try.func77, Try.ntmps77
  go_wp2
  clear hw1 hbp
  go_loopw [5, 6] (fun v i wr => ∃ k : Nat, k ≤ L ∧ i = .int .i64 k ∧ Hid (OwnsV w1.heap.size wr 3 v (intsV (thoseL (parentB n) (l.take k)))) ∧ Hid (Below w1.heap.size w1 wr)) (fun _ i _ => L - (intOf i).toNat)
  case atStart => exact ⟨0, Nat.zero_le _, rfl, Lib.hid (OwnsV.nil _ _ _), Lib.hid (Below.refl _ _)⟩
  case round =>
    obtain ⟨k, hk, rfl, HO, HB⟩ := hrel
    have hx1 : (0 : Int) ≤ (k : Int) := by omega
    have c0 := (HBX.out.below HB.out).cells.1.1
    by_cases hlt : k < L
    · obtain ⟨u, hrow⟩ : ∃ r, l[k]? = some r := ⟨_, List.getElem?_eq_getElem (by rw [HL.out]; exact hlt)⟩
      have HROW := Lib.hid hrow
      obtain ⟨b, off, rfl, hb, hc⟩ := (HR.out.below HB.out).row (procsV_get hrow)
      have d0 : wr.cell? ⟨b, off + k * 6, none⟩ = some (.int .i64 u.pid) := hc 0 _ rfl
      have d1 : wr.cell? ⟨b, off + k * 6 + 1, none⟩ = some (.int .i64 u.parent) := by have := hc 1 _ rfl; rwa [← Nat.add_assoc] at this
      have hx2 : (k : Int) < (L : Int) := by omega
      have HLT := Lib.hid hlt
      have hlen := thoseL_length (parentB n) l k
      have hll := HL.out
      have HLen : Hid ((intsV (thoseL (parentB n) (l.take k))).length ≤ 16) := Lib.hid (by rw [intsV_length]; omega)
      have HSZ := Lib.hid (HB.out.size)
      clear hc hrow hb hlt hlen hll
      by_cases hu : u.parent = n
      · have hq : (u.parent == n) = true := by simpa using hu
        have HNext : Hid (intsV (thoseL (parentB n) (l.take (k + 1))) = intsV (thoseL (parentB n) (l.take k)) ++ [.int .i64 u.pid]) := Lib.hid (by rw [thoseL_yes HROW.out (show parentB n u = true from decide_eq_true hu), intsV_append]; rfl)
        clear hu
        go_wp2_with (at_builtin; refine wpList_append_vals rfl _ _ 37 rfl w1.heap.size 3 (.int .i64 0) 8 Try.underlying37 info_int rfl _ _ rfl (HO.out.alloc _) _ _ _ rfl _ (ReadsV.lit wr #[.int .i64 u.pid] 3) (by intro y hy; simp at hy; subst hy; rfl) (by have := HLen.out; simp; omega) (by have := HLen.out; unfold maxLen; simp; omega) (by have h1 := HSZ.out; simp; omega) ?_; intro v' w2 ho hg)
        have h9 := HLT.out
        go_roundw
        case rel =>
          refine ⟨k + 1, HLT.out, by go_num, Lib.hid ?_, Lib.hid ?_⟩
          · rw [HNext.out]
            exact ho
          · refine (HO.out.alloc _).grown ?_ ?_ hg
            · exact HB.out.alloc HB.out.size _
            · have h1 := HSZ.out; simp; omega
        case measure => simp [intOf]; omega
      · have hq : (u.parent == n) = false := by simpa using hu
        have HNext : Hid (thoseL (parentB n) (l.take (k + 1)) = thoseL (parentB n) (l.take k)) := Lib.hid (thoseL_no HROW.out (show parentB n u = false from decide_eq_false hu))
        clear hu
        go_wp2
        have h9 := HLT.out
        go_roundw
        case rel =>
          refine ⟨k + 1, HLT.out, by go_num, Lib.hid ?_, HB⟩
          rw [HNext.out]
          exact HO.out
        case measure => simp [intOf]; omega
    · obtain rfl : k = L := by omega
      have hx2 : ¬ (k : Int) < (k : Int) := by omega
      clear hlt
      go_wp2
      go_ret
      rw [HE.out]
      exact ⟨_, rfl, HO.out.less HB0.out.size, below_next HB0.out HB.out⟩
theorem ints_get {l : List Int} {j : Nat} {d : Int} (h : l[j]? = some d) : (intsV l)[j]? = some (.int .i64 d) := by unfold intsV; rw [List.getElem?_map, h]; rfl
set_option maxHeartbeats 1600000 in
/-- The law's ints on equal lists. -/
theorem ints22_is (l : List Int) (a b : Option Addr) (c d : Nat) (w : World) (ha : ReadsV w a l.length (intsV l)) (hb : ReadsV w b l.length (intsV l)) (hl : l.length ≤ 1000) :
    Calls Try.prog 44 #[.slice a l.length c, .slice b l.length d] w fun e w' => e = .returned (.bool true) ∧ Below w.heap.size w w' := by
  have HA := Lib.hid ha
  have HB := Lib.hid hb
  obtain ⟨L, hL⟩ : ∃ L, l.length = L := ⟨_, rfl⟩
  have HL := Lib.hid hL
  rw [hL] at HA HB hl ⊢
  clear ha hb hL
  go_enter Try.func44, Try.ntmps44
  go_wp2
  go_loopw [13] (fun i wr => ∃ k : Nat, k ≤ L ∧ i = .int .i64 k ∧ Hid (Below w.heap.size w wr)) (fun i _ => L - (intOf i).toNat)
  case atStart => exact ⟨0, Nat.zero_le _, rfl, Lib.hid (Below.refl _ _)⟩
  case round =>
    obtain ⟨k, hk, rfl, HW⟩ := hrel
    have hx1 : (0 : Int) ≤ (k : Int) := by omega
    by_cases hlt : k < L
    · obtain ⟨x, hx⟩ : ∃ x, l[k]? = some x := ⟨_, List.getElem?_eq_getElem (by rw [HL.out]; exact hlt)⟩
      have ca := HA.out
      have cb := HB.out
      obtain ⟨_, e | ⟨p, off, rfl, hp, hc⟩⟩ := ca
      · have : (intsV l).length = 0 := by rw [e]; rfl
        rw [intsV_length, HL.out] at this
        omega
      obtain ⟨_, e | ⟨p2, off2, rfl, hp2, hc2⟩⟩ := cb
      · have : (intsV l).length = 0 := by rw [e]; rfl
        rw [intsV_length, HL.out] at this
        omega
      have d0 := ((HW.out.cell (p := ⟨p, off + k, none⟩) hp).trans (hc k _ (ints_get hx)))
      have d1 := ((HW.out.cell (p := ⟨p2, off2 + k, none⟩) hp2).trans (hc2 k _ (ints_get hx)))
      have hx2 : (k : Int) < (L : Int) := by omega
      have hq : (x != x) = false := by simp
      have HLT := Lib.hid hlt
      clear hc hc2 hp hp2 hx hlt
      go_wp2
      go_quiet (fail)
      go_wp2
      have h9 := HLT.out
      go_roundw
      case rel => exact ⟨k + 1, HLT.out, by go_num, Lib.hid (below_next HW.out (below_drewN _ _))⟩
      case measure => simp [intOf]; omega
    · obtain rfl : k = L := by omega
      have hx2 : ¬ (k : Int) < (k : Int) := by omega
      clear hlt
      go_wp2
      go_ret
      exact ⟨rfl, HW.out⟩
end Go.Proofs.Ytnengblmcfiajaa
