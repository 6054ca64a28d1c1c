/- Blocks of a size, walked; layer 7's fixed fact; two places compared. -/
import Derived.Test.YtcpbffmffoneeaaDoorCost
namespace Go.Proofs.YtcpbffmffoneeaaDoor
open Go.RowKit Go.Sort Go.Maps Go.ChangeMaps
set_option linter.unusedVariables false
set_option linter.unusedSimpArgs false
set_option maxRecDepth 100000

def blocksI (s : Int) : Int := if s ≤ 0 then 0 else (s - 1) / 128 + 1
theorem pblocks_is (s : Int) (w : World) (hs : I64 s) : Calls Tryd.prog 10 #[.int .i64 s] w fun e w' => e = .returned (.int .i64 (blocksI s)) ∧ w = w' := by
  obtain ⟨s1, s2⟩ := hs
  by_cases h : s ≤ 0
  · have E : Hid (blocksI s = 0) := if_pos h
    go_enter Tryd.func10, Tryd.ntmps10
    go_wp2
    go_ret
    exact ⟨by rw [E.out]; rfl, rfl⟩
  · have E : Hid (blocksI s = (s - 1) / 128 + 1) := if_neg h
    have h1 : 1 ≤ s := by omega
    go_enter Tryd.func10, Tryd.ntmps10
    go_wp2
    go_ret
    exact ⟨by rw [E.out]; rfl, rfl⟩
theorem cost_four : costL [0, 8, 40, 41] = 8 := by decide
theorem reads_lit (w : World) (l : List Int) : ReadsI (w.alloc (.cells (l.map (Value.int .i64)).toArray 3)) (some ⟨w.heap.size, 0, none⟩) l.length l := by
  refine ⟨rfl, .inr ⟨w.heap.size, 0, rfl, by simp, fun i hi => ?_⟩⟩
  unfold World.cell?
  rw [heap_alloc_new]
  simp [List.getElem?_eq_getElem hi]
end Go.Proofs.YtcpbffmffoneeaaDoor
