/- Pointers, written and read as the document says. -/
import Derived.Test.YtedhfgadphjobaaPtr3
import Derived.Test.YtedhfgadphjobaaFull
import Derived.Test.YtedhfgadphjobaaNumB
namespace Go.Proofs.Ytedhfgadphjobaa
open Go.RowKit Go.Sort
set_option linter.unusedVariables false
set_option linter.unusedSimpArgs false
set_option maxRecDepth 100000

def lowsP (l : List FldD) : List Nat := l.flatMap fun x => low (u64of x.z) 4
theorem lowsP_snoc (l : List FldD) (x : FldD) : lowsP (l ++ [x]) = lowsP l ++ low (u64of x.z) 4 := by simp [lowsP]
theorem lowsP_length (l : List FldD) : (lowsP l).length = 4 * l.length := by
  induction l with
  | nil => rfl
  | cons x l ih => simp only [lowsP, List.flatMap_cons, List.length_append, low_length, List.length_cons] at ih ⊢; omega
theorem lowsP_is {l : List FldD} (h : IsPtr l) (hp : inP l) : lowsP l = wrB l := by
  rw [(ptr_room h hp).2]
  unfold lowsP
  rw [List.flatMap_def, List.flatMap_def]
  refine congrArg _ (List.map_congr_left fun x hx => ?_)
  obtain ⟨m, hm⟩ := List.getElem?_of_mem hx
  have hm32 : m < 32 := by have := (List.getElem?_eq_some_iff.1 hm).1; rw [h.1] at this; exact this
  obtain ⟨z, hz, _⟩ := h.2 m hm32
  rw [hm] at hz
  cases hz
  rfl
theorem fullL_all {b : List Nat} (h : b.length = 128) : fullL b = b := by
  unfold fullL pad
  rw [List.take_of_length_le (by omega), h]
  simp

set_option maxHeartbeats 1600000 in
theorem rwritePtr_is {l : List FldD} (hl : IsPtr l) (w : World) :
    Calls Try.prog 52 #[.agg (cellsF l)] w fun e w' => e = .returned (.tuple #[.agg (cells (writeP l).1), .bool (decide (inP l))]) ∧ Below w.heap.size w w' := by
  have hz := zero_full
  have hbld := build_full
  have hwd := ptr_widths hl
  have b1 := below_box w (.cells (cellsF l) 100)
  have n1 := heap_alloc_new w (.cells (cellsF l) 100)
  obtain ⟨w1, hw1⟩ : ∃ w1, w.alloc (.cells (cellsF l) 100) = w1 := ⟨_, rfl⟩
  have hs1 : w1.heap.size = w.heap.size + 1 := by rw [← hw1]; simp
  rw [hw1] at b1 n1
  have b2 := below_box w1 (.cells (cells noughts) 45)
  have n2 := heap_alloc_new w1 (.cells (cells noughts) 45)
  have n1' := (b2.block w.heap.size (by omega)).trans n1
  have HB := Lib.hid (below_next b1 b2)
  rw [hs1] at n2
  obtain ⟨w2, hw2⟩ : ∃ w2, w1.alloc (.cells (cells noughts) 45) = w2 := ⟨_, rfl⟩
  rw [hw2] at n2 n1' HB
  have hs2 : w2.heap.size = w.heap.size + 2 := by rw [← hw2]; simp [hs1]
  clear b1 n1 b2
  go_enter Try.func52, Try.ntmps52
  go_wp2_with fail
  go_loopw [4, 5] (fun v i wr => ∃ k : Nat, k ≤ 32 ∧ i = .int .i64 k ∧ Hid (Owns w2.heap.size wr v (lowsP (l.take k))) ∧ Hid (Below w2.heap.size w2 wr) ∧ ∀ j, j < k → okP (fieldZ l j)) (fun _ i _ => 32 - (intOf i).toNat)
  case atStart => exact ⟨0, by decide, rfl, owns_nil _ _, Below.refl _ _, fun j hj => by omega⟩
  case round =>
    obtain ⟨k, hk, rfl, ho, hb, hok⟩ := hrel
    have n1r := (hb.out.block w.heap.size (by omega)).trans n1'
    have n2r := (hb.out.block (w.heap.size + 1) (by omega)).trans n2
    have hsr : w.heap.size + 2 ≤ wr.heap.size := by have := hb.out.size; omega
    have HBr : Hid (Below w.heap.size w wr) := HB.out.trans (hb.out.mono HB.out.size)
    have HW := Lib.hid hw2
    clear hw1 hw2
    by_cases hlt : k < 32
    · have hkI : (0 : Int) ≤ (k : Int) ∧ (k : Int) < 32 := by omega
      obtain ⟨z, e, kz⟩ := hl.2 k hlt
      have hfz : fieldZ l k = z := by unfold fieldZ; rw [e]; rfl
      have hck : wr.cell? ⟨w.heap.size, k, none⟩ = some (.int .i64 z) := by
        rw [cell_of_row n1r k]
        unfold cellsF
        rw [List.getElem?_toArray, List.getElem?_map, e]
        rfl
      have HOK := Lib.hid hok
      have HFZ := Lib.hid hfz
      have HE := Lib.hid e
      clear hok hfz n1r e
      by_cases hin : 0 ≤ z ∧ z ≤ 65535
      · obtain ⟨n, rfl⟩ : ∃ n : Nat, z = n := ⟨z.toNat, by omega⟩
        have hn : n ≤ 65535 := by omega
        have hu : u64of (n : Int) = n := by unfold u64of; omega
        have HU := Lib.hid hu
        have h0 : ¬ (n : Int) < 0 := by omega
        have h1 : ¬ (n : Int) > 65535 := by omega
        clear hin hu
        go_wp2_with fail
        refine (low_any n 4 wr (by decide) (by omega)).mono ?_
        rintro e w3 ⟨v3, rfl, ho3, b3⟩
        have hll : (low n 4).length = 4 := low_length n 4
        have hkl : (lowsP (l.take k)).length = 4 * k := by rw [lowsP_length, List.length_take, hl.1]; omega
        have ho' := ho.out.below b3
        have hb3 := hb.out.trans (b3.mono hb.out.size)
        have hsz3 := b3.size
        have HST : Hid (lowsP (l.take k) ++ low n 4 = lowsP (l.take (k + 1))) := by
          show lowsP (l.take k) ++ low n 4 = lowsP (l.take (k + 1))
          rw [List.take_add_one, HE.out]
          show _ = lowsP (l.take k ++ [_])
          rw [lowsP_snoc, HU.out]
        obtain ⟨a3, cap3, rfl, hr3, hl3, hc3⟩ := ho3.reads
        rw [hll] at hr3 hl3 ⊢
        clear ho3 b3 ho hb HU HE
        go_wp2_with (at_builtin; refine wpList_append_bytes rfl _ _ rfl w2.heap.size _ _ rfl ho' _ _ _ rfl _ hr3 (by rw [hkl]; omega) (by omega) ?_; intro v' w' g1 g2)
        go_roundw
        case rel =>
          refine ⟨k + 1, by omega, by go_num, by rw [← HST.out]; exact g1, hb3.grown g2 (by omega) (fun j hj => ho'.lt j hj), fun j hj => ?_⟩
          by_cases hjk : j = k
          · subst hjk; rw [HFZ.out]; exact ⟨h0, h1⟩
          · exact HOK.out j (by omega)
        case measure => simp [intOf]; omega
      · have hdn : decide (inP l) = false := decide_eq_false fun h => by have := h k hlt; rw [HFZ.out] at this; exact hin this
        have HF : Hid (writeP l = (noughts, 1)) := if_neg (fun h => by have := h k hlt; rw [HFZ.out] at this; exact hin this)
        have HDN := Lib.hid hdn
        have hd9 := setRow_heap wr (w.heap.size + 1) _ (cells noughts) _ _ n2r
        have hb9 := below_setRow (g := w.heap.size + 1) HBr.out (by omega) (cells noughts)
        clear hdn
        by_cases h0 : z < 0
        · clear hin
          go_wp2_with (refine wpList_store_full rfl _ _ rfl (w.heap.size + 1) noughts rfl rfl rfl _ _ n2r rfl ?_)
          refine bodyPost_ret (results_full_tmp rfl _ _ (w.heap.size + 1) noughts _ _ rfl hd9 rfl) rfl ?_
          exact ⟨by rw [HF.out, HDN.out]; rfl, hb9⟩
        · have h1 : z > 65535 := by omega
          clear hin
          go_wp2_with (refine wpList_store_full rfl _ _ rfl (w.heap.size + 1) noughts rfl rfl rfl _ _ n2r rfl ?_)
          refine bodyPost_ret (results_full_tmp rfl _ _ (w.heap.size + 1) noughts _ _ rfl hd9 rfl) rfl ?_
          exact ⟨by rw [HF.out, HDN.out]; rfl, hb9⟩
    · obtain rfl : k = 32 := by omega
      have hip : inP l := fun m hm => hok m hm
      have hl32 : lowsP (l.take 32) = wrB l := by rw [List.take_of_length_le (by rw [hl.1]; exact Nat.le_refl _), lowsP_is hl hip]
      have hwb : (wrB l).length = 128 := by rw [wrB_length, hwd]
      have hdn : decide (inP l) = true := decide_eq_true hip
      have HF : Hid (writeP l = (wrB l, 0)) := if_pos hip
      have HDN := Lib.hid hdn
      have ho' := ho.out
      rw [hl32] at ho'
      obtain ⟨a4, cap4, rfl, hr4, hl4, hc4⟩ := ho'.reads
      rw [hwb] at hr4 hl4 ⊢
      have HR := Lib.hid hr4
      clear hok hip hdn ho ho' hr4 n1r hl32
      go_wp2_with fail
      refine (full_any _ _ _ _ wr HR.out (by decide)).mono ?_
      rintro e w5 ⟨rfl, b5⟩
      rw [fullL_all hwb]
      have n25 := (b5.block (w.heap.size + 1) (by omega)).trans n2r
      have HB5 : Hid (Below w.heap.size w w5) := HBr.out.trans (b5.mono HBr.out.size)
      have hd9 := setRow_heap w5 (w.heap.size + 1) _ (cells (wrB l)) _ _ n25
      have hb9 := below_setRow (g := w.heap.size + 1) HB5.out (by omega) (cells (wrB l))
      clear b5
      go_wp2_with (refine wpList_store_full rfl _ _ rfl (w.heap.size + 1) (wrB l) rfl rfl hwb _ _ n25 rfl ?_)
      refine bodyPost_ret (results_full_tmp rfl _ _ (w.heap.size + 1) (wrB l) _ _ rfl hd9 hwb) rfl ?_
      exact ⟨by rw [HF.out, HDN.out]; rfl, hb9⟩
end Go.Proofs.Ytedhfgadphjobaa
