/- The reader of a sector, by its walks. -/
import Derived.Test.YtedhfgadphjobaaSector
namespace Go.Proofs.Ytedhfgadphjobaa
open Go.RowKit
set_option linter.unusedVariables false
set_option maxRecDepth 100000

def IsReader (w : World) (g : Nat) (s : List Nat) (n : Nat) (failed : Bool) : Prop :=
  s.length = 128 ∧ Bytes s ∧ n ≤ 128 ∧ w.heap[g]? = some (.cells (wCells s n failed) 197 (0, 0))

theorem IsReader.facts {w : World} {g : Nat} {s : List Nat} {n : Nat} {f : Bool} (h : IsReader w g s n f) :
    w.cell? ⟨g, 128, none⟩ = some (.int .i64 n) ∧ w.cell? ⟨g, 129, none⟩ = some (.bool f) ∧ w.frozen? ⟨g, 128, none⟩ = false ∧ w.frozen? ⟨g, 129, none⟩ = false := by
  obtain ⟨hs, hb, hn, hg⟩ := h
  exact ⟨by rw [cell_of_row w g _ _ _ _ hg, wCells_at hs], by rw [cell_of_row w g _ _ _ _ hg, wCells_failed hs], frozen_of_row w g _ _ _ hg, frozen_of_row w g _ _ _ hg⟩
theorem IsReader.fail {w : World} {g : Nat} {s : List Nat} {n : Nat} {f : Bool} (h : IsReader w g s n f) : IsReader (w.setCell ⟨g, 129, none⟩ (.bool true)) g s n true := by
  obtain ⟨hs, hb, hn, hg⟩ := h
  exact ⟨hs, hb, hn, by rw [heap_setCell_same w g 129 _ _ _ hg, wCells_set_failed hs]⟩
theorem IsReader.move {w : World} {g : Nat} {s : List Nat} {n : Nat} {f : Bool} (h : IsReader w g s n f) (m : Nat) (hm : m ≤ 128) : IsReader (w.setCell ⟨g, 128, none⟩ (.int .i64 m)) g s m f := by
  obtain ⟨hs, hb, hn, hg⟩ := h
  exact ⟨hs, hb, hm, by rw [heap_setCell_same w g 128 _ _ _ hg, wCells_set_at hs]⟩
theorem IsReader.reads {w : World} {g : Nat} {s : List Nat} {n : Nat} {f : Bool} (h : IsReader w g s n f) : Reads w (some ⟨g, 0, none⟩) 128 s := by
  obtain ⟨hs, hb, hn, hg⟩ := h
  refine ⟨hs, hb, .inr ⟨g, 0, rfl, (Array.getElem?_eq_some_iff.1 hg).1, fun i hi => ?_⟩⟩
  rw [cell_of_row w g _ _ _ _ hg, Nat.zero_add, wCells_byte hs hi]
  rfl
theorem IsReader.below {w w' : World} {g : Nat} {s : List Nat} {n : Nat} {f : Bool} {B : Nat} (h : IsReader w g s n f) (hb : Below B w w') (hg : g < B) : IsReader w' g s n f :=
  ⟨h.1, h.2.1, h.2.2.1, by rw [hb.block g hg]; exact h.2.2.2⟩

theorem alloc_two (w : World) (A B : Obj) : ((w.alloc A).alloc B).heap[w.heap.size + 1]? = some B := heap_alloc2_new w A B

theorem wpList_build_reader {ops : Array Oper} {rest : List Oper} {o : Oper} {a : Act} {w : World} {Q : Exit → Act → World → Prop} (hgd : o.guard = none) (x : Operand) (ho : o.op = .build 197 #[(0, x)])
    (s : List Nat) (hx : a.eval x = .agg (cells s)) (hs : s.length = 128) (h : wpList Try.prog ops Q rest (a.put o.dst (.agg (wCells s 0 false))) w) : wpList Try.prog ops Q (o :: rest) a w := by
  refine wpList_plain hgd fun K hK => ?_
  unfold Oper.wp execOp
  have e : ((#[(0, x)] : Array (Nat × Operand)).map fun (i, x) => (i, a.eval x)) = #[(0, Value.agg (cells s))] := by simp [hx]
  simp only [ho, Sem.run_bind, e, build_reader s hs w, Result.andThen_ok]
  exact hK _ _ h

set_option maxRecDepth 100000 in
theorem read_any (s : List Nat) (hs : s.length = 128) (hb : Bytes s) (w : World) :
    Calls Try.prog 108 #[.agg (cells s)] w fun e w' => e = .returned (.pointer (some ⟨w.heap.size + 1, 0, none⟩)) ∧ IsReader w' (w.heap.size + 1) s 0 false ∧ Below w.heap.size w w' := by
  have hc : ∀ j, j < 128 → (w.alloc (.cells (cells s) 46)).cell? ⟨w.heap.size, 0 + j, none⟩ = some (byteV (s.getD j 0)) := fun j hj => by
    rw [cell_of_row _ _ _ _ _ _ (heap_alloc_new w _), Nat.zero_add]
    simp [cells, List.getD, List.getElem?_eq_getElem (show j < s.length by omega)]
  have Hc := Lib.hid hc
  clear hc
  go_enter Try.func108, Try.ntmps108
  go_wp2_with (first | (refine wpList_load_sector rfl (.tmp 1) rfl w.heap.size 0 s rfl hs Hc.out ?_) | (refine wpList_build_reader rfl (.tmp 3) rfl s rfl hs ?_))
  go_ret
  exact ⟨rfl, ⟨hs, hb, by omega, heap_alloc2_new w _ _⟩, ((Below.refl _ _).alloc (Nat.le_refl _) _).alloc (by simp) _⟩

set_option maxHeartbeats 400000 in
theorem reader_num_ok (g : Nat) (s : List Nat) (n q : Nat) (w : World) (h : IsReader w g s n false) (hq : 1 ≤ q) (hq8 : q ≤ 8) (hnq : n + q ≤ 128) :
    Calls Try.prog 109 #[.pointer (some ⟨g, 0, none⟩), .int .i64 q] w fun e w' => e = .returned (.int .u64 (le ((s.drop n).take q) : Nat)) ∧ IsReader w' g s (n + q) false ∧ Only g w w' := by
  obtain ⟨c0, c1, f0, f1⟩ := h.facts
  have hrd : ∀ x, Reads (w.drewN x) (some ⟨g, 0, none⟩) 128 s := fun _ => h.reads
  go_enter Try.func109, Try.ntmps109
  go_wp2
  go_quiet ((go_at_call 111; exact Calls.quiet_of_same ((get_yes _ _ _ _ _ _ _ (hrd _) (by decide) hq hq8 hnq).mono fun _ _ ⟨h1, h2⟩ => ⟨h1, h2.symm⟩)))
  go_wp2
  go_ret
  exact ⟨rfl, by rw [show ((n : Int) + q) = ((n + q : Nat) : Int) by omega]; exact IsReader.move (w := w.drewN nq) h _ (by omega), ((Only.refl _ _).draws nq).setCell _ _⟩

set_option maxHeartbeats 800000 in
theorem reader_num_no (g : Nat) (s : List Nat) (n : Nat) (q : Int) (f : Bool) (w : World) (h : IsReader w g s n f) (hq : I64 q) (hno : f = true ∨ roomB 128 n q = false) :
    Calls Try.prog 109 #[.pointer (some ⟨g, 0, none⟩), .int .i64 q] w fun e w' => e = .returned (.int .u64 0) ∧ IsReader w' g s n true ∧ Only g w w' := by
  obtain ⟨c0, c1, f0, f1⟩ := h.facts
  have hn := h.2.2.1
  have hrd : ∀ x, Reads (w.drewN x) (some ⟨g, 0, none⟩) 128 s := fun _ => h.reads
  by_cases hr : roomB 128 n q = true
  · have hf : f = true := by simpa [hr] using hno
    subst hf
    obtain ⟨k1, k2, k3, k4⟩ := roomB_yes hr
    obtain ⟨q, rfl⟩ := Int.eq_ofNat_of_zero_le (show 0 ≤ q by omega)
    clear hno hr
    go_enter Try.func109, Try.ntmps109
    go_wp2
    go_quiet ((go_at_call 111; exact Calls.quiet_of_same ((get_yes _ _ _ _ _ _ _ (hrd _) (by decide) (by omega) (by omega) (by omega)).mono fun _ _ ⟨h1, h2⟩ => ⟨h1, h2.symm⟩)))
    go_wp2
    go_ret
    exact ⟨rfl, IsReader.fail (w := w.drewN nq) h, ((Only.refl _ _).draws nq).setCell _ _⟩
  · have hr : roomB 128 n q = false := by simpa using hr
    have Hr := Lib.hid hr
    clear hr hno
    cases f with
    | true =>
      go_enter Try.func109, Try.ntmps109
      go_wp2
      go_quiet ((go_at_call 111; exact Calls.quiet_of_same ((get_no _ _ _ _ _ _ (by decide) ⟨by omega, by omega⟩ hq Hr.out).mono fun _ _ ⟨h1, h2⟩ => ⟨h1, h2.symm⟩)))
      go_wp2
      all_goals
        go_ret
        exact ⟨rfl, IsReader.fail (w := w.drewN nq) h, ((Only.refl _ _).draws nq).setCell _ _⟩
    | false =>
      go_enter Try.func109, Try.ntmps109
      go_wp2
      go_quiet ((go_at_call 111; exact Calls.quiet_of_same ((get_no _ _ _ _ _ _ (by decide) ⟨by omega, by omega⟩ hq Hr.out).mono fun _ _ ⟨h1, h2⟩ => ⟨h1, h2.symm⟩)))
      go_wp2
      all_goals
        go_ret
        exact ⟨rfl, IsReader.fail (w := w.drewN nq) h, ((Only.refl _ _).draws nq).setCell _ _⟩

theorem reader_left (g : Nat) (s : List Nat) (n : Nat) (f : Bool) (w : World) (h : IsReader w g s n f) :
    Calls Try.prog 124 #[.pointer (some ⟨g, 0, none⟩)] w fun e w' => e = .returned (.int .i64 ((128 - n : Nat) : Int)) ∧ w = w' := by
  obtain ⟨c0, c1, f0, f1⟩ := h.facts
  have hn := h.2.2.1
  go_enter Try.func124, Try.ntmps124
  go_wp2
  go_ret
  exact ⟨by show Ending.returned (.int .i64 (128 - (n : Int))) = _; rw [show (128 - (n : Int)) = ((128 - n : Nat) : Int) by omega], rfl⟩

theorem reader_bytes_no (g : Nat) (s : List Nat) (n : Nat) (q : Int) (f : Bool) (w : World) (h : IsReader w g s n f) (hq : I64 q) (hno : f = true ∨ q < 0 ∨ 128 - (n : Int) < q) :
    Calls Try.prog 110 #[.pointer (some ⟨g, 0, none⟩), .int .i64 q] w fun e w' => e = .returned (.slice none 0 0) ∧ IsReader w' g s n true ∧ Only g w w' := by
  obtain ⟨c0, c1, f0, f1⟩ := h.facts
  have hn := h.2.2.1
  obtain ⟨q1, q2⟩ := hq
  cases f with
  | true =>
    clear hno
    go_enter Try.func110, Try.ntmps110
    go_wp2
    all_goals
      go_ret
      exact ⟨rfl, IsReader.fail h, (Only.refl _ _).setCell _ _⟩
  | false =>
    by_cases h0 : q < 0
    · clear hno
      go_enter Try.func110, Try.ntmps110
      go_wp2
      all_goals
        go_ret
        exact ⟨rfl, IsReader.fail h, (Only.refl _ _).setCell _ _⟩
    · have h1 : ((128 - n : Nat) : Int) < q := by rcases hno with h | h | h <;> first | cases h | omega
      clear hno
      go_enter Try.func110, Try.ntmps110
      go_wp2_with (go_at_call 124; refine (reader_left _ _ _ _ _ h).mono ?_; rintro e w' ⟨rfl, rfl⟩)
      all_goals
        go_ret
        exact ⟨rfl, IsReader.fail h, (Only.refl _ _).setCell _ _⟩

theorem below_setCells {B : Nat} {w w' : World} (h : Below B w w') (a : Addr) (v : Value) : Below B (w.setCell a v) (w'.setCell a v) := by
  refine ⟨h.os, h.tape, h.output, by simpa [World.setCell] using h.size, fun k hk => ?_⟩
  simp only [World.setCell, Array.getElem?_modify]
  rw [h.block k hk]

/-- What is known behind the copy that Bytes makes. -/
theorem reader_after {w w1 w2 : World} {g n q : Nat} {s : List Nat} {cur : Array Value} (h : IsReader w g s n false) (hnq : n + q ≤ 128) (hb : Below w.heap.size w w1)
    (hcur : w1.heap[w.heap.size]? = some (.cells cur 5 (0, 0))) (hsz : cur.size = q) (hw : w1.drew.setRow w.heap.size (laid cur 0 (((s.drop n).take q))) = w2) :
    w2.cell? ⟨g, 128, none⟩ = some (.int .i64 n) ∧ w2.frozen? ⟨g, 128, none⟩ = false ∧
      Owns w.heap.size (w2.setCell ⟨g, 128, none⟩ (.int .i64 ((n : Int) + q))) (.slice (some ⟨w.heap.size, 0, none⟩) q q) ((s.drop n).take q) ∧
      IsReader (w2.setCell ⟨g, 128, none⟩ (.int .i64 ((n : Int) + q))) g s (n + q) false ∧
      Below w.heap.size (w.setCell ⟨g, 128, none⟩ (.int .i64 ((n + q : Nat) : Int))) (w2.setCell ⟨g, 128, none⟩ (.int .i64 ((n : Int) + q))) := by
  have hgl : g < w.heap.size := (Array.getElem?_eq_some_iff.1 h.2.2.2).1
  have hb2 : Below w.heap.size w w2 := by rw [← hw]; exact below_setRow (hb.drew) (Nat.le_refl _) _
  have hr2 := h.below hb2 hgl
  obtain ⟨c0, _, f0, _⟩ := hr2.facts
  have hlen : ((s.drop n).take q).length = q := by have := h.1; simp; omega
  have hg2 : w2.heap[w.heap.size]? = some (.cells (laid cur 0 ((s.drop n).take q)) 5 (0, 0)) := by
    rw [← hw]; exact setRow_heap _ _ _ _ _ _ (show w1.drew.heap[w.heap.size]? = _ from hcur)
  refine ⟨c0, f0, ⟨(h.2.1.drop n).take q, ?_⟩, ?_, ?_⟩
  · rw [hlen]
    refine ⟨by rw [List.length_map, hlen, Nat.mul_one], .inr ⟨w.heap.size, q, laid cur 0 ((s.drop n).take q), rfl, Nat.le_refl _, ?_, Nat.le_refl _, by unfold maxLen; omega, ?_, ?_⟩⟩
    · rw [Below.heap_setCell _ _ _ _ (by simp; omega)]; exact hg2
    · rw [laid_size _ _ _ (by omega), hsz, Nat.mul_one]
    · rw [Nat.mul_one]
      simp only [laid, Nat.zero_add, List.take_zero, List.nil_append]
      rw [List.take_left' (by rw [List.length_map, hlen])]
  · rw [show ((n : Int) + q) = ((n + q : Nat) : Int) by omega]
    exact hr2.move _ (by omega)
  · rw [show ((n : Int) + q) = ((n + q : Nat) : Int) by omega]
    exact below_setCells hb2 _ _

set_option maxHeartbeats 800000 in
theorem reader_bytes_ok (g : Nat) (s : List Nat) (n q : Nat) (w : World) (h : IsReader w g s n false) (hnq : n + q ≤ 128) :
    Calls Try.prog 110 #[.pointer (some ⟨g, 0, none⟩), .int .i64 q] w fun e w' => ∃ v, e = .returned v ∧ Owns w.heap.size w' v ((s.drop n).take q) ∧ IsReader w' g s (n + q) false ∧ Below w.heap.size (w.setCell ⟨g, 128, none⟩ (.int .i64 ((n + q : Nat) : Int))) w' := by
  obtain ⟨c0, c1, f0, f1⟩ := h.facts
  obtain ⟨i0, hi, hz0, hz1, hz2⟩ := info_parts info_u8
  have t1 : ¬ ((q : Int) < 0) := by omega
  have t2 : ¬ (128 - n < q) := by omega
  have t3 : ¬ (((128 - n : Nat) : Int) < q) := by omega
  go_enter Try.func110, Try.ntmps110
  go_wp2_with (first | (go_at_call 124; refine (reader_left _ _ _ _ _ h).mono ?_; rintro e w' ⟨rfl, rfl⟩) | (at_make; refine wpList_make_full _ rfl _ _ 33 rfl w.heap.size 5 i0 (.int .u8 0) 1 Try.underlying33 hi hz0 hz1 _ _ _ _ q rfl rfl rfl rfl (by rw [hz2]; omega) (by unfold maxLen; omega) (Nat.le_refl _) ?_; intro w1 hown hgrow))
  have hb1 : Below w.heap.size w w1 := (Below.refl _ _).grown hgrow (Nat.le_refl _) (fun k hk => by cases hk)
  have hgl : g < w.heap.size := (Array.getElem?_eq_some_iff.1 h.2.2.2).1
  have hr1 := h.below hb1 hgl
  obtain ⟨d0, d1, _, _⟩ := hr1.facts
  have hcur : ∃ cur, w1.heap[w.heap.size]? = some (.cells cur 5 (0, 0)) ∧ cur.size = q := by
    rcases hown.2 with ⟨hv, _⟩ | ⟨g', cap, cur, hv, _, hg, _, _, hs, _⟩
    · cases hv
    · cases hv; exact ⟨cur, hg, by rw [hs, Nat.mul_one]⟩
  obtain ⟨cur, hcur, hsz⟩ := hcur
  have hrd : Reads w1.drew (some ⟨g, 0, none⟩) 128 s := hr1.reads
  have hA := Lib.hid (fun w2 => reader_after (w2 := w2) h hnq hb1 hcur hsz)
  have Hcur := Lib.hid hcur
  have Hsz := Lib.hid hsz
  clear hcur hsz hown hgrow c0 c1 f0 f1 hi hz0 hz1 hz2 t1 t2 t3 h hb1 hr1
  by_cases hn : n = 128
  · subst hn
    obtain rfl : q = 0 := by omega
    go_still_tail 9, (by kernel_rfl)
    change wpList _ _ _ _ _ w1.drew
    refine wpList_copy_bytes rfl (.tmp 25) (.tmp 33) rfl _ _ _ rfl _ _ _ rfl (s.drop 128) ?_ w.heap.size 0 cur _ (show w1.drew.heap[_]? = _ from Hcur.out) 0 rfl (by simp) (by omega) ?_
    · exact ⟨by have := hrd.1; simp; omega, hrd.2.1.drop 128, .inl (List.drop_of_length_le (by have := hrd.1; omega))⟩
    obtain ⟨w2, hw2⟩ : ∃ w2, w1.drew.setRow w.heap.size (laid cur 0 ((s.drop 128).take 0)) = w2 := ⟨_, rfl⟩
    rw [hw2]
    obtain ⟨e0, e1, e2, e3, e4⟩ := hA.out w2 hw2
    clear hw2 hA d0 d1 hrd
    go_wp2
    go_ret
    exact ⟨_, rfl, e2, e3, e4⟩
  · have h1 : (0 : Int) ≤ n ∧ (n : Int) ≤ 128 := by omega
    have h2 : ¬ 128 = n := by omega
    have hrd2 := hrd.part n (128 - n) (by omega)
    rw [Nat.zero_add, List.take_of_length_le (by have := hrd.1; simp; omega)] at hrd2
    go_still_tail 9, (by kernel_rfl)
    change wpList _ _ _ _ _ w1.drew
    refine wpList_copy_bytes rfl (.tmp 25) (.tmp 33) rfl _ _ _ rfl _ _ _ rfl (s.drop n) hrd2 w.heap.size 0 cur _ (show w1.drew.heap[_]? = _ from Hcur.out) q (Nat.min_eq_right (by omega)).symm (fun _ => rfl) (by rw [Hsz.out]; omega) ?_
    obtain ⟨w2, hw2⟩ : ∃ w2, w1.drew.setRow w.heap.size (laid cur 0 ((s.drop n).take q)) = w2 := ⟨_, rfl⟩
    rw [hw2]
    obtain ⟨e0, e1, e2, e3, e4⟩ := hA.out w2 hw2
    clear hw2 hA d0 d1 hrd hrd2
    go_wp2
    go_ret
    exact ⟨_, rfl, e2, e3, e4⟩

/-- What Close answers of what is left. -/
def closeOf (s : List Nat) (n : Nat) : Int := if (s.drop n).all (· == 0) then 0 else 21
theorem closeOf_no {s : List Nat} {n k : Nat} (hs : s.length = 128) (hk : n + k < 128) (h : s.getD (n + k) 0 ≠ 0) : closeOf s n = 21 := by
  unfold closeOf
  rw [if_neg]
  intro ha
  rw [List.all_eq_true] at ha
  have h1 : s.getD (n + k) 0 ∈ s.drop n := by
    rw [List.mem_iff_getElem?]
    exact ⟨k, by rw [List.getElem?_drop, List.getElem?_eq_getElem (by omega)]; simp [List.getD, List.getElem?_eq_getElem (show n + k < s.length by omega)]⟩
  exact h (by simpa using ha _ h1)
theorem closeOf_yes {s : List Nat} {n : Nat} (hs : s.length = 128) (hn : n ≤ 128) (h : ∀ j, j < 128 - n → s.getD (n + j) 0 = 0) : closeOf s n = 0 := by
  unfold closeOf
  rw [if_pos]
  rw [List.all_eq_true]
  intro x hx
  obtain ⟨j, hj⟩ := List.mem_iff_getElem?.1 hx
  rw [List.getElem?_drop] at hj
  have hlt := (List.getElem?_eq_some_iff.1 hj).1
  have := h j (by omega)
  simp [List.getD, hj] at this
  simpa using this

end Go.Proofs.Ytedhfgadphjobaa
