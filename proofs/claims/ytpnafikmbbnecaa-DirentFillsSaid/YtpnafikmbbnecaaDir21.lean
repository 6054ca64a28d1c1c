/- Find, Room and Count of a block of entries. -/
import Derived.Test.YtpnafikmbbnecaaDir11
import Derived.Shelf.Abstract
namespace Go.Proofs.Ytpnafikmbbnecaa
open Go.RowKit Go.Sort
set_option linter.unusedVariables false
set_option linter.unusedSimpArgs false
set_option maxRecDepth 100000

/-- The first place from j on that is so, else -1. -/
def fromE (p : Ent → Bool) (E : List Ent) (j : Nat) : Int := if j < E.length then (if p (E.getD j (0, ByteArray.empty)) then (j : Int) else fromE p E (j + 1)) else -1
termination_by E.length - j
theorem fromE_yes {p : Ent → Bool} {E : List Ent} {j : Nat} {x : Ent} (h : E[j]? = some x) (hp : p x = true) : fromE p E j = j := by
  have hj := (List.getElem?_eq_some_iff.1 h).1
  unfold fromE
  rw [if_pos hj, List.getD_eq_getElem?_getD, h]
  exact if_pos hp
theorem fromE_no {p : Ent → Bool} {E : List Ent} {j : Nat} {x : Ent} (h : E[j]? = some x) (hp : p x = false) : fromE p E j = fromE p E (j + 1) := by
  have hj := (List.getElem?_eq_some_iff.1 h).1
  rw [fromE, if_pos hj, List.getD_eq_getElem?_getD, h]
  exact if_neg (by show ¬ p x = true; rw [hp]; decide)
theorem fromE_end {p : Ent → Bool} {E : List Ent} {j : Nat} (h : E.length ≤ j) : fromE p E j = -1 := by
  unfold fromE
  exact if_neg (by omega)
def cntE (p : Ent → Bool) (E : List Ent) (j : Nat) : Nat := ((E.drop j).filter p).length
theorem cntE_step {p : Ent → Bool} {E : List Ent} {j : Nat} {x : Ent} (h : E[j]? = some x) : cntE p E j = (if p x then 1 else 0) + cntE p E (j + 1) := by
  have hj := (List.getElem?_eq_some_iff.1 h).1
  have hx := (List.getElem?_eq_some_iff.1 h).2
  unfold cntE
  rw [List.drop_eq_getElem_cons hj, hx, List.filter_cons]
  cases p x <;> simp <;> omega
theorem cntE_end {p : Ent → Bool} {E : List Ent} {j : Nat} (h : E.length ≤ j) : cntE p E j = 0 := by unfold cntE; rw [List.drop_eq_nil_of_le h]; rfl
theorem cntE_le (p : Ent → Bool) (E : List Ent) (j : Nat) : cntE p E j ≤ E.length := by
  unfold cntE
  exact Nat.le_trans (List.length_filter_le _ _) (by rw [List.length_drop]; omega)
def PredE (g : Nat) (lb : Array Value) (p : Ent → Bool) (w : World) : Prop :=
  ∀ (W : World) (z : Int) (s : ByteArray), Below w.heap.size w W → Calls Try.prog g (#[.agg #[.int .i64 z, .string s]] ++ lb) W fun e w' => e = .returned (.bool (p (z, s))) ∧ Below W.heap.size W w'
set_option maxHeartbeats 1600000 in
theorem first_is {E : List Ent} (hE : E.length = 4) (g : Nat) (lb : Array Value) (eg : ∀ args w, (callFunc g args).run Try.prog w = .ok (.enter g args) w) (p : Ent → Bool) (w : World) (hp : PredE g lb p w) :
    Calls Try.prog 59 #[.agg (csE E), .func (.func g) #[] lb] w fun e w' => e = .returned (.int .i64 (fromE p E 0)) ∧ Below w.heap.size w w' := by
  obtain ⟨d, hd1, hd2⟩ := row_blk
  have hsi : (Try.prog.info? 28).map (·.size) = some (E.flatMap entV).length := by rw [entV_len, hE]; exact size_blk
  have b1 := below_box w (.cells (csE E) 28)
  have n1 := heap_alloc_new w (.cells (csE E) 28)
  obtain ⟨w1, hw1⟩ : ∃ w1, w.alloc (.cells (csE E) 28) = w1 := ⟨_, rfl⟩
  rw [hw1] at b1 n1
  have HB1 := Lib.hid b1
  have HR1 : Hid (w1.rangeAt w.heap.size 0 (E.flatMap entV)) := Lib.hid (row_range n1)
  have HE := Lib.hid hE
  have HD1 := Lib.hid hd1
  have HSI := Lib.hid hsi
  have HP := Lib.hid hp
  clear b1 n1 hE hd1 hsi hp
  go_enter Try.func59, Try.ntmps59
  go_wp2_with (refine wpList_load_mid rfl 28 _ rfl w.heap.size 0 rfl (E.flatMap entV) d HR1.out HD1.out hd2 HSI.out ?_)
  clear hw1
  go_loopw [5, 8] (fun _ i wr => ∃ j : Nat, j ≤ 4 ∧ i = .int .i64 j ∧ Hid (fromE p E 0 = fromE p E j) ∧ Hid (Below w.heap.size w wr)) (fun _ i _ => 4 - (intOf i).toNat)
  case atStart => exact ⟨0, by decide, rfl, Lib.hid rfl, HB1⟩
  case round =>
    obtain ⟨j, hj, rfl, HF, HB⟩ := hrel
    by_cases hlt : j < 4
    · have hjI : (0 : Int) ≤ (j : Int) ∧ (j : Int) < 4 := by omega
      obtain ⟨⟨z, s⟩, ex⟩ : ∃ x, E[j]? = some x := ⟨_, List.getElem?_eq_getElem (by rw [HE.out]; exact hlt)⟩
      have hidx := run_index_blk HE.out ex
      unfold csE at hidx
      dsimp only at hidx
      have hb4 := below_box wr (.cells #[.int .i64 z, .string s] 27)
      have n4 := heap_alloc_new wr (.cells #[.int .i64 z, .string s] 27)
      have HB4 := Lib.hid (below_next HB.out hb4)
      obtain ⟨w4, hw4⟩ : ∃ x, wr.alloc (.cells #[.int .i64 z, .string s] 27) = x := ⟨_, rfl⟩
      rw [hw4] at n4 HB4
      have d0 : w4.cell? ⟨wr.heap.size, 0, none⟩ = some (.int .i64 z) := (cell_of_row n4 0).trans rfl
      have d1 : w4.cell? ⟨wr.heap.size, 1, none⟩ = some (.string s) := (cell_of_row n4 1).trans rfl
      have hcall := HP.out w4 z s HB4.out
      have HEX := Lib.hid ex
      clear ex hb4 n4
      cases hpx : p (z, s) with
      | true =>
        rw [hpx] at hcall
        have HRES : Hid (fromE p E 0 = (j : Int)) := Lib.hid (HF.out.trans (fromE_yes HEX.out hpx))
        clear hpx
        go_wp2_with (go_at_fn g; refine hcall.mono ?_; rintro e w5 ⟨rfl, b5⟩)
        go_ret
        exact ⟨by rw [HRES.out]; rfl, below_next HB4.out b5⟩
      | false =>
        rw [hpx] at hcall
        have HNEXT : Hid (fromE p E 0 = fromE p E (j + 1)) := Lib.hid (HF.out.trans (fromE_no HEX.out hpx))
        clear hpx
        go_wp2_with (go_at_fn g; refine hcall.mono ?_; rintro e w5 ⟨rfl, b5⟩)
        go_roundw
        case rel => exact ⟨j + 1, by omega, by go_num, HNEXT, Lib.hid (below_next HB4.out b5)⟩
        case measure => simp [intOf]; omega
    · obtain rfl : j = 4 := by omega
      have HRES : Hid (fromE p E 0 = -1) := Lib.hid (HF.out.trans (fromE_end (by rw [HE.out]; exact Nat.le_refl _)))
      go_wp2
      go_ret
      exact ⟨by rw [HRES.out]; rfl, HB.out⟩
def freeE (x : Ent) : Bool := x.1 == 0
def nameP (nm : ByteArray) (x : Ent) : Bool := !(x.1 == 0) && (x.2.toList == nm.toList)
theorem enters_none (args : Array Value) (w : World) : (callFunc 61 args).run Try.prog w = .ok (.enter 61 args) w := enters_of Try.func61 (by kernel_rfl) rfl args w
theorem enters_find (args : Array Value) (w : World) : (callFunc 60 args).run Try.prog w = .ok (.enter 60 args) w := enters_of Try.func60 (by kernel_rfl) rfl args w
theorem none_pred (w : World) : PredE 61 #[] freeE w := fun W z s _ => none_is z s W
theorem find_pred (nm : ByteArray) (w : World) (g : Nat) (hc : w.cell? ⟨g, 0, none⟩ = some (.string nm)) (hg : g < w.heap.size) : PredE 60 #[.pointer (some ⟨g, 0, none⟩)] (nameP nm) w := by
  intro W z s hB
  show Calls Try.prog 60 #[.agg #[.int .i64 z, .string s], .pointer (some ⟨g, 0, none⟩)] W _
  have b1 := below_box W (.cells #[.int .i64 z, .string s] 27)
  have n1 := heap_alloc_new W (.cells #[.int .i64 z, .string s] 27)
  have hgW : g < W.heap.size := Nat.lt_of_lt_of_le hg hB.size
  have hcW : W.cell? ⟨g, 0, none⟩ = some (.string nm) := (hB.cell (p := ⟨g, 0, none⟩) hg).trans hc
  have hc1 := (b1.cell (p := ⟨g, 0, none⟩) hgW).trans hcW
  obtain ⟨w1, hw1⟩ : ∃ x, W.alloc (.cells #[.int .i64 z, .string s] 27) = x := ⟨_, rfl⟩
  rw [hw1] at n1 hc1 b1
  have d0 : w1.cell? ⟨W.heap.size, 0, none⟩ = some (.int .i64 z) := (cell_of_row n1 0).trans rfl
  have d1 : w1.cell? ⟨W.heap.size, 1, none⟩ = some (.string s) := (cell_of_row n1 1).trans rfl
  have hlt1 : W.heap.size < w1.heap.size := (Array.getElem?_eq_some_iff.1 n1).1
  have HB1 := Lib.hid b1
  clear n1 hcW b1 hB hc
  go_enter Try.func60, Try.ntmps60
  go_wp2_with fail
  refine (none_is z s w1).mono ?_
  rintro e w2 ⟨rfl, b2⟩
  have HB2 := Lib.hid (below_next HB1.out b2)
  have e1 : w2.cell? ⟨W.heap.size, 1, none⟩ = some (.string s) := (b2.cell (p := ⟨W.heap.size, 1, none⟩) hlt1).trans d1
  have e2 : w2.cell? ⟨g, 0, none⟩ = some (.string nm) := (b2.cell (p := ⟨g, 0, none⟩) (show g < w1.heap.size by omega)).trans hc1
  clear b2 d0 d1 hc1
  cases hz : (z == 0) with
  | true =>
    have HM : Hid (nameP nm (z, s) = false) := Lib.hid (by unfold nameP; dsimp only; rw [hz]; rfl)
    clear hz
    go_wp2
    go_ret
    exact ⟨by rw [HM.out]; rfl, HB2.out⟩
  | false =>
    have HM : Hid (nameP nm (z, s) = (s.toList == nm.toList)) := Lib.hid (by unfold nameP; dsimp only; rw [hz]; rfl)
    clear hz
    go_wp2
    go_ret
    exact ⟨by rw [HM.out]; rfl, HB2.out⟩
set_option maxHeartbeats 1600000 in
theorem find_is {E : List Ent} (hE : E.length = 4) (nm : ByteArray) (w : World) :
    Calls Try.prog 15 #[.agg (csE E), .string nm] w fun e w' => e = .returned (.int .i64 (fromE (nameP nm) E 0)) ∧ Below w.heap.size w w' := by
  obtain ⟨d, hd1, hd2⟩ := row_blk
  have hsi : (Try.prog.info? 28).map (·.size) = some (E.flatMap entV).length := by rw [entV_len, hE]; exact size_blk
  have b1 := below_box w (.cells (csE E) 28)
  have n1 := heap_alloc_new w (.cells (csE E) 28)
  obtain ⟨w1, hw1⟩ : ∃ w1, w.alloc (.cells (csE E) 28) = w1 := ⟨_, rfl⟩
  have hs1 : w1.heap.size = w.heap.size + 1 := by rw [← hw1]; simp
  rw [hw1] at b1 n1
  have b2 := below_box w1 (.cells #[.string nm] 9)
  have n2 := heap_alloc_new w1 (.cells #[.string nm] 9)
  have n12 := (b2.block w.heap.size (by omega)).trans n1
  have HB2 := Lib.hid (below_next b1 b2)
  obtain ⟨w2, hw2⟩ : ∃ x, w1.alloc (.cells #[.string nm] 9) = x := ⟨_, rfl⟩
  rw [hw2] at n2 n12 HB2
  have c2 : w2.cell? ⟨w1.heap.size, 0, none⟩ = some (.string nm) := (cell_of_row n2 0).trans rfl
  have hlt : w1.heap.size < w2.heap.size := (Array.getElem?_eq_some_iff.1 n2).1
  have HR1 : Hid (w2.rangeAt w.heap.size 0 (E.flatMap entV)) := Lib.hid (row_range n12)
  have HD1 := Lib.hid hd1
  have HSI := Lib.hid hsi
  rw [hs1] at c2 hlt
  have HF := Lib.hid (first_is hE 60 #[.pointer (some ⟨w.heap.size + 1, 0, none⟩)] enters_find (nameP nm) w2 (find_pred nm w2 (w.heap.size + 1) c2 hlt))
  clear b1 n1 b2 n2 n12 hd1 hsi c2 hlt
  go_enter Try.func15, Try.ntmps15
  go_wp2_with (refine wpList_load_mid rfl 28 _ rfl w.heap.size 0 rfl (E.flatMap entV) d HR1.out HD1.out hd2 HSI.out ?_)
  refine HF.out.mono ?_
  rintro e w3 ⟨rfl, b3⟩
  have HB3 := Lib.hid (below_next HB2.out b3)
  clear b3 hw1 hw2 hs1
  go_wp2
  go_ret
  exact ⟨rfl, HB3.out⟩
set_option maxHeartbeats 1600000 in
theorem room_is {E : List Ent} (hE : E.length = 4) (w : World) :
    Calls Try.prog 16 #[.agg (csE E)] w fun e w' => e = .returned (.int .i64 (fromE freeE E 0)) ∧ Below w.heap.size w w' := by
  obtain ⟨d, hd1, hd2⟩ := row_blk
  have hsi : (Try.prog.info? 28).map (·.size) = some (E.flatMap entV).length := by rw [entV_len, hE]; exact size_blk
  have b1 := below_box w (.cells (csE E) 28)
  have n1 := heap_alloc_new w (.cells (csE E) 28)
  obtain ⟨w1, hw1⟩ : ∃ w1, w.alloc (.cells (csE E) 28) = w1 := ⟨_, rfl⟩
  rw [hw1] at b1 n1
  have HB1 := Lib.hid b1
  have HR1 : Hid (w1.rangeAt w.heap.size 0 (E.flatMap entV)) := Lib.hid (row_range n1)
  have HD1 := Lib.hid hd1
  have HSI := Lib.hid hsi
  have HF := Lib.hid (first_is hE 61 #[] enters_none freeE w1 (none_pred w1))
  clear b1 n1 hd1 hsi
  go_enter Try.func16, Try.ntmps16
  go_wp2_with (refine wpList_load_mid rfl 28 _ rfl w.heap.size 0 rfl (E.flatMap entV) d HR1.out HD1.out hd2 HSI.out ?_)
  refine HF.out.mono ?_
  rintro e w3 ⟨rfl, b3⟩
  have HB3 := Lib.hid (below_next HB1.out b3)
  clear b3 hw1
  go_wp2
  go_ret
  exact ⟨rfl, HB3.out⟩
def takenE (x : Ent) : Bool := !(x.1 == 0)
set_option maxHeartbeats 1600000 in
theorem count_is {E : List Ent} (hE : E.length = 4) (w : World) :
    Calls Try.prog 17 #[.agg (csE E)] w fun e w' => e = .returned (.int .i64 (cntE takenE E 0 : Nat)) ∧ Below w.heap.size w w' := by
  obtain ⟨d, hd1, hd2⟩ := row_blk
  have hsi : (Try.prog.info? 28).map (·.size) = some (E.flatMap entV).length := by rw [entV_len, hE]; exact size_blk
  have b1 := below_box w (.cells (csE E) 28)
  have n1 := heap_alloc_new w (.cells (csE E) 28)
  obtain ⟨w1, hw1⟩ : ∃ w1, w.alloc (.cells (csE E) 28) = w1 := ⟨_, rfl⟩
  rw [hw1] at b1 n1
  have HB1 := Lib.hid b1
  have HR1 : Hid (w1.rangeAt w.heap.size 0 (E.flatMap entV)) := Lib.hid (row_range n1)
  have HE := Lib.hid hE
  have HD1 := Lib.hid hd1
  have HSI := Lib.hid hsi
  clear b1 n1 hE hd1 hsi
  go_enter Try.func17, Try.ntmps17
  go_wp2_with (refine wpList_load_mid rfl 28 _ rfl w.heap.size 0 rfl (E.flatMap entV) d HR1.out HD1.out hd2 HSI.out ?_)
  clear hw1
  go_loopw [3, 7] (fun c i wr => ∃ j n : Nat, j ≤ 4 ∧ n ≤ j ∧ i = .int .i64 j ∧ c = .int .i64 n ∧ Hid (cntE takenE E 0 = n + cntE takenE E j) ∧ Hid (Below w.heap.size w wr)) (fun _ i _ => 4 - (intOf i).toNat)
  case atStart => exact ⟨0, 0, by decide, by decide, rfl, rfl, Lib.hid (Nat.zero_add _).symm, HB1⟩
  case round =>
    obtain ⟨j, n, hj, hn, rfl, rfl, HF, HB⟩ := hrel
    by_cases hlt : j < 4
    · have hjI : (0 : Int) ≤ (j : Int) ∧ (j : Int) < 4 := by omega
      obtain ⟨⟨z, s⟩, ex⟩ : ∃ x, E[j]? = some x := ⟨_, List.getElem?_eq_getElem (by rw [HE.out]; exact hlt)⟩
      have hidx := run_index_blk HE.out ex
      unfold csE at hidx
      dsimp only at hidx
      have hb4 := below_box wr (.cells #[.int .i64 z, .string s] 27)
      have n4 := heap_alloc_new wr (.cells #[.int .i64 z, .string s] 27)
      have HB4 := Lib.hid (below_next HB.out hb4)
      obtain ⟨w4, hw4⟩ : ∃ x, wr.alloc (.cells #[.int .i64 z, .string s] 27) = x := ⟨_, rfl⟩
      rw [hw4] at n4 HB4
      have d0 : w4.cell? ⟨wr.heap.size, 0, none⟩ = some (.int .i64 z) := (cell_of_row n4 0).trans rfl
      have d1 : w4.cell? ⟨wr.heap.size, 1, none⟩ = some (.string s) := (cell_of_row n4 1).trans rfl
      have hst := cntE_step (p := takenE) ex
      clear ex hb4 n4
      cases hz : (z == 0) with
      | true =>
        have ht : takenE (z, s) = false := by unfold takenE; dsimp only; rw [hz]; rfl
        rw [ht, if_neg (by decide)] at hst
        have HNX : Hid (cntE takenE E 0 = n + cntE takenE E (j + 1)) := Lib.hid (by rw [HF.out, hst]; omega)
        have HCA := Lib.hid (none_is z s w4)
        rw [hz] at HCA
        clear hst ht hz
        go_wp2_with fail
        refine HCA.out.mono ?_
        rintro e w5 ⟨rfl, b5⟩
        have HB5 := Lib.hid (below_next HB4.out b5)
        clear b5 d0 d1
        go_wp2
        go_roundw
        case rel => exact ⟨j + 1, n, by omega, by omega, by go_num, rfl, HNX, HB5⟩
        case measure => simp [intOf]; omega
      | false =>
        have ht : takenE (z, s) = true := by unfold takenE; dsimp only; rw [hz]; rfl
        rw [ht, if_pos rfl] at hst
        have HNX : Hid (cntE takenE E 0 = (n + 1) + cntE takenE E (j + 1)) := Lib.hid (by rw [HF.out, hst]; omega)
        have HCA := Lib.hid (none_is z s w4)
        rw [hz] at HCA
        clear hst ht hz
        go_wp2_with fail
        refine HCA.out.mono ?_
        rintro e w5 ⟨rfl, b5⟩
        have HB5 := Lib.hid (below_next HB4.out b5)
        clear b5 d0 d1
        go_wp2
        go_roundw
        case rel => exact ⟨j + 1, n + 1, by omega, by omega, by go_num, by go_num, HNX, HB5⟩
        case measure => simp [intOf]; omega
    · obtain rfl : j = 4 := by omega
      have HRES : Hid (cntE takenE E 0 = n) := Lib.hid (by rw [HF.out, cntE_end (by rw [HE.out]; exact Nat.le_refl _)]; rfl)
      go_wp2
      go_ret
      exact ⟨by rw [HRES.out]; rfl, HB.out⟩
end Go.Proofs.Ytpnafikmbbnecaa
