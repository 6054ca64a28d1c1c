/- The law's fixed fact. -/
import Derived.Test.YtgakidimipipeaaGreatGmindpcjg
namespace Go.Proofs.YtgakidimipipeaaGreat
open Go.RowKit Go.Sort
set_option linter.unusedVariables false
set_option linter.unusedSimpArgs false
set_option maxRecDepth 100000

def firstE : List Ent := [(3, ⟨#[97, 98]⟩), (0, ByteArray.empty), (0, ByteArray.empty), (0, ByteArray.empty)]
theorem firstE_cells : csE firstE = #[.int .i64 3, .string ⟨#[97, 98]⟩, .int .i64 0, .string ByteArray.empty, .int .i64 0, .string ByteArray.empty, .int .i64 0, .string ByteArray.empty] := rfl
theorem firstE_facts : (writeDb firstE).2 = 0 ∧ (writeDb firstE).1.length = 128 ∧ (writeDb firstE).1.getD 0 0 = 3 ∧ (writeDb firstE).1.getD 2 0 = 2 ∧ (writeDb firstE).1.getD 4 0 = 98 := by
  refine ⟨by decide +kernel, by decide +kernel, by decide +kernel, by decide +kernel, by decide +kernel⟩
theorem build_blk (w : World) : (Instr.build 48 #[(0, .agg #[.int .i64 3, .string ⟨#[97, 98]⟩])]).run Tryz.prog w = .ok (.agg #[.int .i64 3, .string ⟨#[97, 98]⟩, .int .i64 0, .string ByteArray.empty, .int .i64 0, .string ByteArray.empty, .int .i64 0, .string ByteArray.empty]) w := by kernel_rfl
theorem goodE_first : goodE [97, 47, 98] = 1 := by decide +kernel
end Go.Proofs.YtgakidimipipeaaGreat
