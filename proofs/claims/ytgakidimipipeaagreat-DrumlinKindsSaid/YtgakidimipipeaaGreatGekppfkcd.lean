/- The law's Told: the program's summary as the document's. -/
import Derived.Test.YtgakidimipipeaaGreatGaonjdjal
namespace Go.Proofs.YtgakidimipipeaaGreat
open Go.RowKit Go.Sort
set_option linter.unusedVariables false
set_option linter.unusedSimpArgs false
set_option maxRecDepth 100000

theorem rinfoEntry : (Tryz.prog.info? 91).map (fun i => (i.zero, i.size, i.bytes)) = some (some (.agg #[.int .i64 0, .int .u32 0, .int .u32 0, .int .i64 0]), 4, 24) := by kernel_rfl
theorem rzero_sum (w : World) : (zeroValue 29).run Tryz.prog w = .ok (.agg #[.int .u64 0, .int .u64 0, .bool false, .int .i64 0, .int .u32 0, .slice none 0 0]) w := by kernel_rfl
theorem rsize_sum : (Tryz.prog.info? 29).map (·.size) = some 6 := by kernel_rfl
theorem rrow_sum : ∃ d, Tryz.prog.underlying 29 = some d ∧ d.isRow = true := by
  cases h : Tryz.prog.underlying 29 with
  | none => exact absurd h (by decide)
  | some d =>
    refine ⟨d, rfl, ?_⟩
    have : (Tryz.prog.underlying 29).map (·.isRow) = some true := by kernel_rfl
    rw [h] at this
    simpa using this

end Go.Proofs.YtgakidimipipeaaGreat
