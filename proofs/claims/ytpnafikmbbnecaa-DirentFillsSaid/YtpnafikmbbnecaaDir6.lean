/- The law's fixed fact. -/
import Derived.Test.YtpnafikmbbnecaaDir5
namespace Go.Proofs.Ytpnafikmbbnecaa
open Go.RowKit Go.Sort
set_option linter.unusedVariables false
set_option linter.unusedSimpArgs false
set_option maxRecDepth 100000

def firstE : List Ent := [(3, ⟨#[97, 98]⟩), (0, ByteArray.empty), (0, ByteArray.empty), (0, ByteArray.empty)]
theorem firstE_cells : csE firstE = #[.int .i64 3, .string ⟨#[97, 98]⟩, .int .i64 0, .string ByteArray.empty, .int .i64 0, .string ByteArray.empty, .int .i64 0, .string ByteArray.empty] := rfl
theorem firstE_facts : (writeD firstE).2 = 0 ∧ (writeD firstE).1.length = 128 ∧ (writeD firstE).1.getD 0 0 = 3 ∧ (writeD firstE).1.getD 2 0 = 2 ∧ (writeD firstE).1.getD 4 0 = 98 := by
  refine ⟨by decide +kernel, by decide +kernel, by decide +kernel, by decide +kernel, by decide +kernel⟩
theorem build_blk (w : World) : (Instr.build 28 #[(0, .agg #[.int .i64 3, .string ⟨#[97, 98]⟩])]).run Try.prog w = .ok (.agg #[.int .i64 3, .string ⟨#[97, 98]⟩, .int .i64 0, .string ByteArray.empty, .int .i64 0, .string ByteArray.empty, .int .i64 0, .string ByteArray.empty]) w := by kernel_rfl
theorem goodE_first : goodE [97, 47, 98] = 1 := by decide +kernel
set_option maxHeartbeats 1600000 in
theorem awake6_true (w : World) : Calls Try.prog 10 #[] w fun e w' => e = .returned (.bool true) ∧ Below w.heap.size w w' := by
  have hz := zero_sector
  obtain ⟨f1, f2, f3, f4, f5⟩ := firstE_facts
  have hw0 := fun (W : World) => writeD_is (E := firstE) rfl (by
    intro x hx
    simp only [firstE, List.mem_cons, List.not_mem_nil, or_false] at hx
    rcases hx with rfl | rfl | rfl | rfl <;> exact ⟨by unfold I64; dsimp only; omega, by decide⟩) W
  rw [firstE_cells, f1] at hw0
  obtain ⟨sc, hsc⟩ : ∃ x, (writeD firstE).1 = x := ⟨_, rfl⟩
  rw [hsc] at hw0 f2 f3 f4 f5
  have HW0 := Lib.hid hw0
  have HG := Lib.hid (fun (W : World) => good_is ⟨#[97, 47, 98]⟩ W (by unfold Fit; decide))
  rw [show (⟨#[97, 47, 98]⟩ : ByteArray).data.toList = [97, 47, 98] from rfl, goodE_first] at HG
  have H3 := Lib.hid (And.intro f3 (And.intro f4 f5))
  clear hw0 f1 hsc f3 f4 f5
  go_enter Try.func10, Try.ntmps10
  go_wp2_with fail
  refine (HW0.out w).mono ?_
  rintro e w1 ⟨rfl, b1⟩
  have nz := heap_alloc_new w1 (.cells (cells noughts) 43)
  have b2 := below_box w1 (.cells (cells sc) 43)
  have n2 := heap_alloc_new w1 (.cells (cells sc) 43)
  have e2 := World.setRow_alloc_new w1 (cells noughts) (cells sc) 43
  have HB2 : Hid (Below w.heap.size w (w1.alloc (.cells (cells sc) 43))) := Lib.hid (below_next b1 b2)
  obtain ⟨w2, hw2⟩ : ∃ x, w1.alloc (.cells (cells sc) 43) = x := ⟨_, rfl⟩
  rw [hw2] at n2 e2 HB2
  obtain ⟨g, hg⟩ : ∃ g, w1.heap.size = g := ⟨_, rfl⟩
  rw [hg] at nz n2 e2
  have hc := block_cells f2 n2
  have c0 : w2.cell? ⟨g, 0, none⟩ = some (.int .u8 3) := by have := hc 0 (by decide); rw [H3.out.1] at this; exact this
  have c2 : w2.cell? ⟨g, 2, none⟩ = some (.int .u8 2) := by have := hc 2 (by decide); rw [H3.out.2.1] at this; exact this
  have c4 : w2.cell? ⟨g, 4, none⟩ = some (.int .u8 98) := by have := hc 4 (by decide); rw [H3.out.2.2] at this; exact this
  clear b1 b2 n2 hw2 hc HW0
  go_wp2_with (refine wpList_store_sector rfl _ _ rfl g sc rfl rfl f2 _ _ nz rfl ?_; rw [e2])
  refine (HG.out w2).mono ?_
  rintro e w3 ⟨rfl, b3⟩
  have HB3 := Lib.hid (below_next HB2.out b3)
  clear b3 c0 c2 c4 nz e2
  go_wp2
  go_ret
  exact ⟨rfl, HB3.out⟩
end Go.Proofs.Ytpnafikmbbnecaa
