/- Pointers, written in a sector, and read back: the program's. -/
import Derived.Test.YtedhfgadphjobaaPtr
import Derived.Test.YtedhfgadphjobaaAwake5
namespace Go.Proofs.Ytedhfgadphjobaa
open Go.RowKit Go.Sort
set_option linter.unusedVariables false
set_option linter.unusedSimpArgs false
set_option maxRecDepth 100000

def okP (z : Int) : Prop := 0 ≤ z ∧ z ≤ 65535
def inP (l : List FldD) : Prop := ∀ m, m < 32 → okP (fieldZ l m)
noncomputable instance inPDec (l : List FldD) : Decidable (inP l) := Classical.propDecidable _
noncomputable def writeP (l : List FldD) : List Nat × Int := if inP l then (wrB l, 0) else (noughts, 1)
theorem ptr_widths {l : List FldD} (h : IsPtr l) : widths l = 128 := by
  have e : l.map (·.width) = (List.range 32).map fun _ => 4 := by
    apply List.ext_getElem?
    intro m
    by_cases hm : m < 32
    · obtain ⟨z, hz, _⟩ := h.2 m hm
      rw [List.getElem?_map, List.getElem?_map, hz, List.getElem?_range hm]
      rfl
    · rw [List.getElem?_eq_none (by simp [h.1]; omega), List.getElem?_eq_none (by simp; omega)]
  rw [widths_sum, e]
  decide
/-- Numbers that have room leave no mark. -/
theorem stS_room : ∀ (l : List FldD) (b : List Nat), (∀ x ∈ l, u64of x.z < 256 ^ x.width) → stS (.wr b false) l = .wr (b ++ l.flatMap fun x => low (u64of x.z) x.width) false
  | [], b, _ => by simp [stS]
  | x :: l, b, h => by
    show stS (PS.next (.wr b false) x.width (u64of x.z)) l = _
    have h1 := h x (List.mem_cons_self ..)
    have e : PS.next (.wr b false) x.width (u64of x.z) = .wr (b ++ low (u64of x.z) x.width) false := if_pos h1
    rw [e, stS_room l _ fun y hy => h y (List.mem_cons_of_mem _ hy)]
    simp
theorem ptr_room {l : List FldD} (h : IsPtr l) (hp : inP l) : wrF l = false ∧ wrB l = l.flatMap fun x => low (u64of x.z) x.width := by
  have hr : ∀ x ∈ l, u64of x.z < 256 ^ x.width := by
    intro x hx
    obtain ⟨m, hm⟩ := List.getElem?_of_mem hx
    have hm32 : m < 32 := by have := (List.getElem?_eq_some_iff.1 hm).1; rw [h.1] at this; exact this
    obtain ⟨z, hz, _⟩ := h.2 m hm32
    have hk := hp m hm32
    unfold fieldZ at hk
    rw [hm] at hz
    rw [hm] at hk
    cases hz
    obtain ⟨k1, k2⟩ := hk
    show u64of z < 256 ^ 4
    have : (0 : Int) ≤ z ∧ z ≤ 65535 := ⟨k1, k2⟩
    unfold u64of
    omega
  have := stS_room l [] hr
  unfold wrF wrB
  rw [this]
  exact ⟨rfl, rfl⟩

theorem run_size_int (w : World) : (sizeOf 3).run Try.prog w = .ok 1 w := by kernel_rfl
theorem run_agg_int (w : World) : (isAgg 3).run Try.prog w = .ok false w := by kernel_rfl
theorem run_part_int {cs : Array Value} {k : Nat} {z : Int} (h : cs[k]? = some (.int .i64 z)) (w : World) : (part 3 cs k).run Try.prog w = .ok (.int .i64 z) w := by
  unfold part
  simp only [Sem.run_bind, run_agg_int, Result.andThen_ok]
  rw [if_neg (by decide), h]
  rfl
theorem run_index_ptr {cs : Array Value} {k : Nat} {z : Int} (hk : k < 32) (h : cs[k]? = some (.int .i64 z)) (w : World) : (Instr.index 100 (.agg cs) (.int .i64 k)).run Try.prog w = .ok (.int .i64 z) w := by
  unfold Instr.index
  simp only [asIntOf, Sem.run_bind, Sem.run_pure, Result.andThen_ok, run_underlying Try.underlying100, run_size_int]
  rw [if_pos ⟨by omega, by omega⟩]
  simp only [Sem.run_bind, run_size_int, Result.andThen_ok, Int.toNat_natCast, Nat.mul_one]
  exact run_part_int h w

theorem laid_all {b : List Nat} (h : b.length = 128) : laid (cells noughts) 0 (b.take 128) = cells b := by
  rw [List.take_of_length_le (by omega)]
  have hn : noughts.length = 128 := rfl
  unfold laid cells
  simp [h, hn]

set_option maxHeartbeats 1600000 in
theorem writePtr_is {l : List FldD} (hl : IsPtr l) (w : World) :
    Calls Try.prog 51 #[.agg (cellsF l)] w fun e w' => e = .returned (.tuple #[.agg (cells (writeP l).1), .int .i64 (writeP l).2]) ∧ Below w.heap.size w w' := by
  have hz := zero_sector
  have hbld := build_sector
  have hwd := ptr_widths hl
  obtain ⟨d, hd1, hd2⟩ := row_ptr
  have hsi : (Try.prog.info? 100).map (·.size) = some (rowV l).length := by unfold rowV; rw [List.length_map, hl.1]; exact size_ptr
  have b1 := below_box w (.cells (cellsF l) 100)
  have n1 := heap_alloc_new w (.cells (cellsF l) 100)
  obtain ⟨w1, hw1⟩ : ∃ w1, w.alloc (.cells (cellsF l) 100) = w1 := ⟨_, rfl⟩
  have hs1 : w1.heap.size = w.heap.size + 1 := by rw [← hw1]; simp
  rw [hw1] at b1 n1
  have b2 := below_box w1 (.cells (cells noughts) 46)
  have n2 := heap_alloc_new w1 (.cells (cells noughts) 46)
  have n1' := (b2.block w.heap.size (by omega)).trans n1
  have hr1 := rowV_range n1'
  have HB := Lib.hid (below_next b1 b2)
  rw [hs1] at n2
  obtain ⟨w2, hw2⟩ : ∃ w2, w1.alloc (.cells (cells noughts) 46) = w2 := ⟨_, rfl⟩
  rw [hw2] at n2 n1' hr1 HB
  have hs2 : w2.heap.size = w.heap.size + 2 := by rw [← hw2]; simp [hs1]
  have HW2 := Lib.hid hw2
  clear b1 n1 b2
  go_enter Try.func51, Try.ntmps51
  go_wp2_with (refine wpList_load_mid rfl 100 _ rfl w.heap.size 0 rfl (rowV l) d hr1 hd1 hd2 hsi ?_)
  go_loopw [5, 10] (fun _ i wr => ∃ k : Nat, k ≤ 32 ∧ i = .int .i64 k ∧ Hid (w2 = wr) ∧ ∀ j, j < k → okP (fieldZ l j)) (fun _ i _ => 32 - (intOf i).toNat)
  case atStart => exact ⟨0, by decide, rfl, rfl, fun j hj => by omega⟩
  case round =>
    obtain ⟨k, hk, rfl, hwr, hok⟩ := hrel
    obtain rfl := hwr.out
    by_cases hlt : k < 32
    · have hkI : (0 : Int) ≤ (k : Int) ∧ (k : Int) < 32 := by omega
      obtain ⟨z, e, kz⟩ := hl.2 k hlt
      have hfz : fieldZ l k = z := by unfold fieldZ; rw [e]; rfl
      have hrv : (rowV l)[k]? = some (.int .i64 z) := by unfold rowV; rw [List.getElem?_map, e]; rfl
      have hidx := run_index_ptr (cs := (rowV l).toArray) hlt (by rw [List.getElem?_toArray]; exact hrv)
      have HOK := Lib.hid hok
      have HFZ := Lib.hid hfz
      clear hok e hfz hrv
      go_wp2_with fail
      refine (among_is z 0 65535 w2).mono ?_
      rintro e w3 ⟨rfl, rfl⟩
      by_cases hin : 0 ≤ z ∧ z ≤ 65535
      · rw [decide_eq_true hin]
        go_wp2
        go_roundw
        case rel =>
          refine ⟨k + 1, by omega, by simp, (by first | exact (trivial : Hid True) | exact rfl), fun j hj => ?_⟩
          by_cases hjk : j = k
          · subst hjk; rw [HFZ.out]; exact hin
          · exact HOK.out j (by omega)
        case measure => simp [intOf]; omega
      · rw [decide_eq_false hin]
        have HF : Hid (writeP l = (noughts, 1)) := if_neg (fun h => by have := h k hlt; rw [HFZ.out] at this; exact hin this)
        have hd9 := setRow_heap w2 (w.heap.size + 1) _ (cells noughts) _ _ n2
        have hb9 := below_setRow (g := w.heap.size + 1) HB.out (by omega) (cells noughts)
        clear hin
        go_wp2_with (refine wpList_store_sector rfl _ _ rfl (w.heap.size + 1) noughts rfl rfl rfl _ _ n2 rfl ?_)
        refine bodyPost_ret (results_sector rfl _ _ (w.heap.size + 1) noughts _ _ rfl hd9 rfl) rfl ?_
        exact ⟨by rw [HF.out]; rfl, hb9⟩
    · obtain rfl : k = 32 := by omega
      have hip : inP l := fun m hm => hok m hm
      have HF : Hid (writeP l = (wrB l, 0)) := if_pos hip
      have hwf := (ptr_room hl hip).1
      have hwb8 : (wrB l).length = 128 := by rw [wrB_length, hwd]
      clear hok hip
      go_wp2_with (refine wpList_load_mid rfl 100 _ rfl w.heap.size 0 rfl (rowV l) d hr1 hd1 hd2 hsi ?_)
      refine (pwrite_ptr hl (by rw [hwd]; decide) w2).mono ?_
      rintro e w4 ⟨b4, ⟨hf, rfl⟩ | ⟨hf, v, rfl, ho⟩⟩
      · rw [hwf] at hf; cases hf
      · have n4 := (b4.block (w.heap.size + 1) (by omega)).trans n2
        obtain ⟨a4, cap4, rfl, hr4, hl4, hc4⟩ := ho.reads
        rw [hwb8] at hr4 hl4 ⊢
        have HB4 : Hid (Below w.heap.size w w4) := HB.out.trans (b4.mono HB.out.size)
        have hs4 : w.heap.size + 2 ≤ w4.heap.size := by have := b4.size; omega
        have nz := heap_alloc_new w4 (.cells (cells noughts) 46)
        have hr5 := hr4.alloc (.cells (cells noughts) 46)
        have b5 := below_box w4 (.cells (cells (wrB l)) 46)
        have n5 := heap_alloc_new w4 (.cells (cells (wrB l)) 46)
        have e5 := World.setRow_alloc_new w4 (cells noughts) (cells (wrB l)) 46
        obtain ⟨w5, hw5⟩ : ∃ w5, w4.alloc (.cells (cells (wrB l)) 46) = w5 := ⟨_, rfl⟩
        rw [hw5] at b5 n5 e5
        have n45 := (b5.block (w.heap.size + 1) (by omega)).trans n4
        have HB5 : Hid (Below w.heap.size w w5) := HB4.out.trans (b5.mono HB4.out.size)
        have HC5 := Lib.hid (block_cells hwb8 n5)
        have hd9 := setRow_heap w5 (w.heap.size + 1) _ (cells (wrB l)) _ _ n45
        have hb9 := below_setRow (g := w.heap.size + 1) HB5.out (by omega) (cells (wrB l))
        have hla := laid_all hwb8
        clear b4 ho hr4 HB4 b5 n5 hw5 hf n4
        go_wp2_with (first | (refine wpList_copy_bytes rfl (.tmp 23) (.tmp 24) rfl _ _ _ rfl _ _ _ rfl (wrB l) hr5 w4.heap.size 0 (cells noughts) _ nz 128 (by decide) (fun _ => rfl) (by rw [cells_size]; decide) ?_; rw [hla, e5]) | refine wpList_load_sector rfl _ rfl w4.heap.size 0 (wrB l) rfl hwb8 HC5.out ?_ | refine wpList_store_sector rfl _ _ rfl (w.heap.size + 1) (wrB l) rfl rfl hwb8 _ _ n45 rfl ?_)
        refine bodyPost_ret (results_sector rfl _ _ (w.heap.size + 1) (wrB l) _ _ rfl hd9 hwb8) rfl ?_
        exact ⟨by rw [HF.out]; rfl, hb9⟩
end Go.Proofs.Ytedhfgadphjobaa
