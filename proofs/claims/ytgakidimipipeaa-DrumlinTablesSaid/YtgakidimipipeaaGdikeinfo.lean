/- Codec's own ReadUses. -/
import Derived.Test.YtgakidimipipeaaGohcjdjhg
import Derived.Test.YtgakidimipipeaaGodngmhjg
namespace Go.Proofs.Ytgakidimipipeaa
open Go.RowKit Go.Sort
set_option linter.unusedVariables false
set_option linter.unusedSimpArgs false
set_option maxRecDepth 100000

set_option maxHeartbeats 3200000 in
theorem readUses_is {w : World} (s : List Nat) (hs : s.length = 128) (hb : Bytes s) :
    Calls Try.prog 30 #[.agg (cells s)] w (ReadsPost 123 3 w (readUse s)) := by
  have b1 := below_box w (.cells (cells s) 41)
  have n1 := heap_alloc_new w (.cells (cells s) 41)
  obtain ⟨w1, hw1⟩ : ∃ w1, w.alloc (.cells (cells s) 41) = w1 := ⟨_, rfl⟩
  have hs1 : w1.heap.size = w.heap.size + 1 := by rw [← hw1]; simp
  rw [hw1] at b1 n1
  have HR : Hid (w1.rangeAt w.heap.size 0 (s.map byteV)) := Lib.hid (by have := row_range n1; simpa [cells] using this)
  have hgl : w.heap.size < w1.heap.size := by omega
  have hu := row_sector
  have hsz : (Try.prog.info? 41).map (·.size) = some (s.map byteV).length := by rw [size_sector, List.length_map, hs]
  have hl8 : (s.map byteV).length = 128 := by rw [List.length_map, hs]
  have hone := byteV_oneCell s
  have HB := Lib.hid b1
  have HREAD := Lib.hid (fun (W : World) (hW : Below w1.heap.size w1 W) (vu vr : Value) (hu : IsUpUse W vu) (hv : IsRestUse W vr) => (readUse_is s hs hb vu vr hu hv).mono fun e w' k => And.intro (hW.trans (k.1.mono hW.size)) (readsPost_up (below_next b1 hW) k))
  obtain ⟨⟨rl, re⟩, hre⟩ : ∃ r, readUse s = r := ⟨_, rfl⟩
  obtain ⟨rn, hrn⟩ : ∃ n, rl.length = n := ⟨_, rfl⟩
  have HRN := Lib.hid hrn
  rw [hre] at HREAD ⊢
  have H1 := (Below.refl w1.heap.size w1).drew
  clear b1 n1 hre hrn
  go_enter Try.func30, Try.ntmps30
  go_wp2_with fail
  go_region_held3 (fun W => W.rangeAt w.heap.size 0 (s.map byteV) ∧ Below w1.heap.size w1 W) (first | exact ⟨range_bel H1 hgl HR.out, H1⟩ | exact ⟨range_bel k5 hgl HR.out, k5⟩ | exact ⟨range_bel k6 hgl HR.out, k6⟩ | exact ⟨range_bel k7 hgl HR.out, k7⟩)
    ((first
      | (go_at_call 69; refine (uptoUse_is _).mono ?_; rintro e w5 ⟨vu, rfl, hU, b5⟩; first | (have k5 := k6.trans (b5.mono k6.size); have hUr := hU; have hVr := hV.below b5) | (have k5 := H1.trans (b5.mono H1.size)); obtain ⟨u1, u2, rfl, _, _⟩ := id hU)
      | (go_at_call 71; refine (rest0Use_is _).mono ?_; rintro e w6 ⟨vr, rfl, hV, b6⟩; first | (have k6 := k5.trans (b6.mono k5.size); have hUr := hU.below b6; have hVr := hV) | (have k6 := H1.trans (b6.mono H1.size)); obtain ⟨u3, rfl, _⟩ := id hV)
      | (go_at_call 73; refine (HREAD.out _ (by first | exact k6 | exact k5) _ _ hUr hVr).mono ?_; rintro e w7 ⟨b7, q7⟩; have k7 := b7; have HQ := Lib.hid q7; obtain ⟨_, a7, c7, rfl, o7⟩ := id q7; clear q7 o7; rw [show ((rl, re) : List (List FldD) × Int).1.length = rn from HRN.out])))
  all_goals
    go_wp2
    go_ret2
    have hq := HQ.out
    rw [show ((rl, re) : List (List FldD) × Int).1.length = rn from HRN.out] at hq
    exact hq
end Go.Proofs.Ytgakidimipipeaa
