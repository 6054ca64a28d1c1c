/- The law's look at open files: they are the document's. -/
import Derived.Test.YtbpklbicbeckdaaGkihcjhkd
namespace Go.Proofs.Ytbpklbicbeckdaa
open Go.RowKit Go.Sort
set_option linter.unusedVariables false
set_option linter.unusedSimpArgs false
set_option maxRecDepth 100000

def cntF (fl : List FileD) (k : Nat) : Nat := (placesL knownB fl (min (k - 1) fl.length)).length
theorem cnt_none {fl : List FileD} {k : Nat} (h : openAt fl ((k : Int) - 1) = none) : cntF fl (k + 1) = cntF fl k := by
  unfold cntF
  rcases k with _ | k
  · rfl
  · have e : ((k + 1 : Nat) : Int) - 1 = (k : Int) := by omega
    rw [e] at h
    by_cases hk : k < fl.length
    · obtain ⟨o, ho⟩ : ∃ o, fl[k]? = some o := ⟨_, List.getElem?_eq_getElem hk⟩
      have hn : knownB o = false := by
        cases hb : knownB o with
        | false => rfl
        | true => rw [openAt_yes ho hb] at h; cases h
      rw [show min (k + 1 + 1 - 1) fl.length = k + 1 by omega, show min (k + 1 - 1) fl.length = k by omega, placesL_no ho hn]
    · rw [show min (k + 1 + 1 - 1) fl.length = fl.length by omega, show min (k + 1 - 1) fl.length = fl.length by omega]
theorem cnt_some {fl : List FileD} {k : Nat} {o : FileD} (h : openAt fl ((k : Int) - 1) = some o) : cntF fl (k + 1) = cntF fl k + 1 := by
  obtain ⟨i, hi, ho, hb⟩ := openAt_some h
  obtain rfl : k = i + 1 := by omega
  have hlt := (List.getElem?_eq_some_iff.1 ho).1
  unfold cntF
  rw [show min (i + 1 + 1 - 1) fl.length = i + 1 by omega, show min (i + 1 - 1) fl.length = i by omega, placesL_yes ho hb]
  simp
theorem cnt_full (fl : List FileD) : cntF fl (fl.length + 2) = countF fl := by
  unfold cntF countF
  rw [show min (fl.length + 2 - 1) fl.length = fl.length by omega]
theorem cnt_le (fl : List FileD) (k : Nat) : cntF fl k ≤ fl.length := by
  unfold cntF
  exact Nat.le_trans (placesL_length _ _ _) (Nat.min_le_right _ _)
set_option maxHeartbeats 1600000 in
theorem files_true {B B' : Nat} {w : World} {g gs : Nat} {v : Value} {fl : List FileD} (h : IsFiles B w g gs fl) (hR : RFiles B' w v fl) :
    Calls Try.prog 33 #[.pointer (some ⟨g, 0, none⟩), v] w fun e w' => e = .returned (.bool true) ∧ Below w.heap.size w w' := by
  obtain ⟨a, c, rfl, h1⟩ := id hR
  obtain ⟨hr, _, _⟩ := hR.reads
  have hl := h.2.2.2.2
  obtain ⟨n, hn⟩ : ∃ n, fl.length = n := ⟨_, rfl⟩
  rw [hn] at hl ⊢
  have HN := Lib.hid hn
  have H := Lib.hid h
  have HR := Lib.hid hr
  clear h h1 hR hr hn
  have hc0 : cntF fl 0 = 0 := rfl
  have HC0 := Lib.hid hc0
  clear hc0
  go_enter Try.func33, Try.ntmps33
  go_wp2
  go_loopw [5, 6] (fun ct i wr => ∃ (k q : Nat), k ≤ n + 2 ∧ ct = .int .i64 (q : Int) ∧ Hid (q = cntF fl k) ∧ i = .int .i64 ((k : Int) - 1) ∧ Hid (Below w.heap.size w wr)) (fun _ i _ => n + 2 - (intOf i + 1).toNat)
  case atStart => exact ⟨0, 0, by omega, rfl, Lib.hid HC0.out.symm, rfl, Lib.hid (Below.refl _ _)⟩
  case round =>
    obtain ⟨k, q, hk, rfl, HQ, rfl, KR⟩ := hrel
    by_cases hlt : k < n + 2
    · have hx1 : (k : Int) - 1 ≤ (n : Int) := by omega
      have HLT := Lib.hid hlt
      have HGET := Lib.hid (fget_is (H.out.below KR.out) ((k : Int) - 1))
      have HIS := Lib.hid (fun (W : World) (hW : Below wr.heap.size wr W) => rfis_is a n c fl HN.out hl ((k : Int) - 1) W (HR.out.below (below_next KR.out hW)))
      have hq64 : q ≤ 64 := by have h1 := HQ.out; have h2 := cnt_le fl k; have h3 := HN.out; omega
      cases ho : openAt fl ((k : Int) - 1) with
      | none =>
        have HNX : Hid (q = cntF fl (k + 1)) := Lib.hid (by rw [cnt_none ho]; exact HQ.out)
        rw [getF_no ho] at HGET
        rw [ho] at HIS
        unfold fileA zeroF at HGET
        dsimp only at HGET
        obtain ⟨z, hz⟩ : ∃ z : Int, (k : Int) - 1 = z := ⟨_, rfl⟩
        have HZ := Lib.hid hz
        have hzb : -1 ≤ z ∧ z ≤ 66 := by omega
        rw [hz] at HGET HIS hx1 ⊢
        clear ho hz hlt hk
        go_wp2_with fail
        refine HGET.out.mono ?_
        rintro e w1 ⟨rfl, b1⟩
        have nb := heap_alloc_new w1 (.cells #[.int .i64 0, .int .i64 0, .int .i64 0, .int .i64 0, .int .i64 0] 74)
        have bb := below_box w1 (.cells #[.int .i64 0, .int .i64 0, .int .i64 0, .int .i64 0, .int .i64 0] 74)
        obtain ⟨w2, hw2⟩ : ∃ x, w1.alloc (.cells #[.int .i64 0, .int .i64 0, .int .i64 0, .int .i64 0, .int .i64 0] 74) = x := ⟨_, rfl⟩
        rw [hw2] at nb bb
        obtain ⟨g1, hg1⟩ : ∃ x, w1.heap.size = x := ⟨_, rfl⟩
        rw [hg1] at nb
        have y0 := cell_of_row nb 0
        have y1 := cell_of_row nb 1
        have y2 := cell_of_row nb 2
        have y3 := cell_of_row nb 3
        have y4 := cell_of_row nb 4
        have ff := fun i => frozen_of_row w2 g1 i _ _ nb
        have hg5 := (five_set (.int .i64 0) (.int .i64 0) (.int .i64 0) (.int .i64 0) (.int .i64 0) nb).2
        have n5 := five_heap (.int .i64 0) (.int .i64 0) (.int .i64 0) (.int .i64 0) (.int .i64 0) nb
        obtain ⟨W5, hW5⟩ : ∃ x, (((((w2.setCell ⟨g1, 0, none⟩ (.int .i64 0)).setCell ⟨g1, 1, none⟩ (.int .i64 0)).setCell ⟨g1, 2, none⟩ (.int .i64 0)).setCell ⟨g1, 3, none⟩ (.int .i64 0)).setCell ⟨g1, 4, none⟩ (.int .i64 0)) = x := ⟨_, rfl⟩
        rw [hW5] at hg5 n5
        have KB : Hid (Below wr.heap.size wr W5) := Lib.hid ((below_next b1 bb).grown hg5 (below_next b1 bb).size (fun i hi => by obtain rfl := Option.some.inj hi; rw [← hg1]; exact b1.size))
        have x0 := cell_of_row n5 0
        have x1 := cell_of_row n5 1
        have x2 := cell_of_row n5 2
        have x3 := cell_of_row n5 3
        have x4 := cell_of_row n5 4
        clear b1 bb nb hg5 n5
        go_wp2_with fail
        refine (HIS.out W5 KB.out).mono ?_
        rintro e w3 ⟨rfl, rfl⟩
        go_wp2
        have h1 := HLT.out
        have h2 := HZ.out
        go_roundw
        case rel => exact ⟨k + 1, q, by omega, rfl, HNX, congrArg (Value.int .i64) (by omega), Lib.hid (below_next KR.out KB.out)⟩
        case measure => simp only [intOf]; omega
      | some o =>
        have HNX : Hid (q + 1 = cntF fl (k + 1)) := Lib.hid (by rw [cnt_some ho, HQ.out])
        rw [getF_yes ho] at HGET
        rw [ho] at HIS
        unfold fileA at HGET
        dsimp only at HGET
        obtain ⟨i, hi, hu, hb⟩ := openAt_some ho
        have HZ := Lib.hid hi
        have HIL := Lib.hid (List.getElem?_eq_some_iff.1 hu).1
        obtain ⟨b, off, rfl, hb9, hc⟩ := (HR.out.below KR.out).row (filesV_get hu)
        have HC : Hid (∀ W, Below wr.heap.size wr W → W.cell? ⟨b, off + i * 5, none⟩ = some (.int .i64 o.kind) ∧ W.cell? ⟨b, off + i * 5 + 1, none⟩ = some (.int .i64 o.num) ∧ W.cell? ⟨b, off + i * 5 + 2, none⟩ = some (.int .i64 o.at_) ∧ W.cell? ⟨b, off + i * 5 + 3, none⟩ = some (.int .i64 o.flags) ∧ W.cell? ⟨b, off + i * 5 + 4, none⟩ = some (.int .i64 o.refs)) := Lib.hid (fun W hW => by
          have e0 := (hW.cell (p := ⟨b, off + (i * 5 + 0), none⟩) hb9).trans (hc 0 _ rfl)
          have e1 := (hW.cell (p := ⟨b, off + (i * 5 + 1), none⟩) hb9).trans (hc 1 _ rfl)
          have e2 := (hW.cell (p := ⟨b, off + (i * 5 + 2), none⟩) hb9).trans (hc 2 _ rfl)
          have e3 := (hW.cell (p := ⟨b, off + (i * 5 + 3), none⟩) hb9).trans (hc 3 _ rfl)
          have e4 := (hW.cell (p := ⟨b, off + (i * 5 + 4), none⟩) hb9).trans (hc 4 _ rfl)
          simp only [← Nat.add_assoc] at e0 e1 e2 e3 e4
          exact ⟨e0, e1, e2, e3, e4⟩)
        rw [hi] at HGET HIS hx1 ⊢
        have hi2 : (i : Int) < (n : Int) := by have := HIL.out; have := HN.out; omega
        have hi0 : (0 : Int) ≤ (i : Int) := by omega
        clear ho hi hlt hk hu hb hb9 hc
        go_wp2_with fail
        refine HGET.out.mono ?_
        rintro e w1 ⟨rfl, b1⟩
        have nb := heap_alloc_new w1 (.cells #[.int .i64 o.kind, .int .i64 o.num, .int .i64 o.at_, .int .i64 o.flags, .int .i64 o.refs] 74)
        have bb := below_box w1 (.cells #[.int .i64 o.kind, .int .i64 o.num, .int .i64 o.at_, .int .i64 o.flags, .int .i64 o.refs] 74)
        obtain ⟨w2, hw2⟩ : ∃ x, w1.alloc (.cells #[.int .i64 o.kind, .int .i64 o.num, .int .i64 o.at_, .int .i64 o.flags, .int .i64 o.refs] 74) = x := ⟨_, rfl⟩
        rw [hw2] at nb bb
        obtain ⟨g1, hg1⟩ : ∃ x, w1.heap.size = x := ⟨_, rfl⟩
        rw [hg1] at nb
        have KB := Lib.hid (below_next b1 bb)
        have NBX := Lib.hid nb
        have x0 := cell_of_row nb 0
        have x1 := cell_of_row nb 1
        have x2 := cell_of_row nb 2
        have x3 := cell_of_row nb 3
        have x4 := cell_of_row nb 4
        clear b1 bb nb
        obtain ⟨c0, c1, c2, c3, c4⟩ := HC.out w2 KB.out
        go_wp2_with fail
        refine (HIS.out w2 KB.out).mono ?_
        rintro e w3 ⟨rfl, rfl⟩
        have nb := heap_alloc_new w2 (.cells #[.int .i64 o.kind, .int .i64 o.num, .int .i64 o.at_, .int .i64 o.flags, .int .i64 o.refs] 77)
        have bb := below_box w2 (.cells #[.int .i64 o.kind, .int .i64 o.num, .int .i64 o.at_, .int .i64 o.flags, .int .i64 o.refs] 77)
        obtain ⟨w4, hw4⟩ : ∃ x, w2.alloc (.cells #[.int .i64 o.kind, .int .i64 o.num, .int .i64 o.at_, .int .i64 o.flags, .int .i64 o.refs] 77) = x := ⟨_, rfl⟩
        rw [hw4] at nb bb
        obtain ⟨g3, hg3⟩ : ∃ x, w2.heap.size = x := ⟨_, rfl⟩
        have n1 : w4.heap[g1]? = some (.cells #[.int .i64 o.kind, .int .i64 o.num, .int .i64 o.at_, .int .i64 o.flags, .int .i64 o.refs] 74 (0, 0)) := (bb.block g1 (Array.getElem?_eq_some_iff.1 NBX.out).1).trans NBX.out
        rw [hg3] at nb
        have y0 := cell_of_row nb 0
        have y1 := cell_of_row nb 1
        have y2 := cell_of_row nb 2
        have y3 := cell_of_row nb 3
        have y4 := cell_of_row nb 4
        have z0 := cell_of_row n1 0
        have z1 := cell_of_row n1 1
        have z2 := cell_of_row n1 2
        have z3 := cell_of_row n1 3
        have z4 := cell_of_row n1 4
        have KB4 := Lib.hid (below_next KB.out bb)
        clear nb bb n1
        go_wp2
        have h1 := HLT.out
        have h2 := HZ.out
        go_roundw
        case rel => exact ⟨k + 1, q + 1, by omega, by go_num, HNX, congrArg (Value.int .i64) (by omega), Lib.hid (below_next KR.out KB4.out)⟩
        case measure => simp only [intOf]; omega
    · obtain rfl : k = n + 2 := by omega
      have hx1 : ¬ ((n + 2 : Nat) : Int) - 1 ≤ (n : Int) := by omega
      have hq : q = countF fl := by rw [← cnt_full, HN.out]; exact HQ.out
      have HCT := Lib.hid (fcount_is (H.out.below KR.out))
      rw [← hq] at HCT
      clear hlt hk hq
      go_wp2_with fail
      refine HCT.out.mono ?_
      rintro e w1 ⟨rfl, b1⟩
      have HE := Lib.hid (below_next KR.out b1)
      clear b1
      go_wp2
      go_ret
      exact ⟨rfl, HE.out⟩
end Go.Proofs.Ytbpklbicbeckdaa
