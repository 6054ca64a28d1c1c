/- Layer 20's fixed fact. -/
import Derived.Test.YtbpklbicbeckdaaGjakdjjem
import Derived.Test.YtbpklbicbeckdaaGacjdocdj
namespace Go.Proofs.Ytbpklbicbeckdaa
open Go.RowKit Go.Sort
set_option linter.unusedVariables false
set_option linter.unusedSimpArgs false
set_option maxRecDepth 100000

theorem own_cells {B : Nat} {w : World} {e : TypeId} {k g n c : Nat} {l : List (List Value)} (h : OwnsR' B w e k (.slice (some ⟨g, 0, none⟩) n c) l) : ∃ cs, w.heap[g]? = some (.cells cs e (0, 0)) := by
  obtain ⟨_, _, ⟨h, _⟩ | ⟨g', cap, cur, e1, _, hg', _⟩⟩ := h
  · cases h
  · cases e1
    exact ⟨_, hg'⟩
theorem own_cellsV {B : Nat} {w : World} {e : TypeId} {g n c : Nat} {l : List Value} (h : OwnsV B w e (.slice (some ⟨g, 0, none⟩) n c) l) : ∃ cs, w.heap[g]? = some (.cells cs e (0, 0)) := by
  obtain ⟨_, ⟨h, _⟩ | ⟨g', cap, cur, e1, _, hg', _⟩⟩ := h
  · cases h
  · cases e1
    exact ⟨_, hg'⟩
/-- Open files and sets don't disturb one another. -/
theorem IsSet.keptF {B B' : Nat} {w w' : World} {g gs cap gf gfs : Nat} {ids : List Int} {fl : List FileD} (h : IsSet B w g gs cap ids) (hf : IsFiles B' w gf gfs fl) (hg : w.grownBy w' (some gfs)) : IsSet B w' g gs cap ids := by
  obtain ⟨cs, hc⟩ := own_cells hf.2.1
  obtain ⟨ds, hd⟩ := own_cellsV h.2.1
  refine ⟨(hg.block g (set_lt h).1 (fun e => nblock hc h.1 (by decide) (Option.some.inj e).symm)).trans h.1, h.2.1.kept hg (.inr (fun e => nblock hc hd (by decide) ?_)), h.2.2⟩
  have : gs = gfs := Option.some.inj e
  exact this.symm
theorem IsFiles.keptS {B B' : Nat} {w w' : World} {g gs cap gf gfs : Nat} {ids : List Int} {fl : List FileD} (hf : IsFiles B w gf gfs fl) (h : IsSet B' w g gs cap ids) (hg : w.grownBy w' (some gs)) : IsFiles B w' gf gfs fl := by
  obtain ⟨cs, hc⟩ := own_cells hf.2.1
  obtain ⟨ds, hd⟩ := own_cellsV h.2.1
  refine ⟨(hg.block gf (files_lt hf).1 (fun e => nblock hd hf.1 (by decide) (Option.some.inj e).symm)).trans hf.1, hf.2.1.kept hg (.inr (fun e => nblock hd hc (by decide) ?_)), hf.2.2⟩
  have : gfs = gs := Option.some.inj e
  exact this.symm
set_option maxHeartbeats 1600000 in
theorem awake20_true (w : World) : Calls Try.prog 22 #[] w fun e w' => e = .returned (.bool true) ∧ Below w.heap.size w w' := by
  have q1 : openF [zeroF, zeroF] 1 5 1 = ([⟨1, 5, 0, 1, 1⟩, zeroF], 0, 0) := by decide
  have q2 : putS [-1, -1, -1] 7 = ([7, -1, -1], 0, 0) := by decide
  have q3 : countF [⟨1, 5, 0, 1, 1⟩, zeroF] = 1 := by decide
  have q4 : (idV (allL [7, -1, -1])).length = 1 := by decide
  have Q1 := Lib.hid q1
  have Q2 := Lib.hid q2
  have Q3 := Lib.hid q3
  have Q4 := Lib.hid q4
  clear q1 q2 q3 q4
  go_enter Try.func22, Try.ntmps22
  go_wp2_with fail
  refine (fnew_is 2 w 2 (by decide)).mono ?_
  rintro e w1 ⟨gf, gfs, rfl, hf, b1⟩
  have HF := Lib.hid hf
  have B1 := Lib.hid b1
  clear hf b1
  go_wp2_with fail
  refine (snew_is 3 w1 3 (by decide)).mono ?_
  rintro e w2 ⟨g, gs, cap, rfl, hs, b2⟩
  have HF2 : Hid (IsFiles w.heap.size w2 gf gfs [zeroF, zeroF]) := Lib.hid (HF.out.below b2)
  have HS2 : Hid (IsSet w.heap.size w2 g gs cap [-1, -1, -1]) := Lib.hid (hs.less B1.out.size)
  have B2 := Lib.hid (below_next B1.out b2)
  clear hs b2 HF B1
  go_wp2_with fail
  refine (fopen_is HF2.out 1 5 1).mono ?_
  rintro e w3 ⟨rfl, hf3, g3⟩
  rw [Q1.out] at hf3 ⊢
  have HF3 := Lib.hid hf3
  have HS3 := Lib.hid (HS2.out.keptF HF2.out g3)
  have B3 := Lib.hid (B2.out.grown g3 B2.out.size (fun j hj => by obtain rfl := Option.some.inj hj; exact (files_lt HF2.out).2.2))
  clear hf3 g3 HF2 HS2 B2
  go_wp2_with fail
  refine (sput_is HS3.out 7).mono ?_
  rintro e w4 ⟨rfl, hs4, g4⟩
  rw [Q2.out] at hs4 ⊢
  have HS4 := Lib.hid hs4
  have HF4 := Lib.hid (HF3.out.keptS HS3.out g4)
  have B4 := Lib.hid (B3.out.grown g4 B3.out.size (fun j hj => by obtain rfl := Option.some.inj hj; exact (set_lt HS3.out).2.2))
  clear hs4 g4 HF3 HS3 B3
  have HCT := Lib.hid (fcount_is HF4.out)
  rw [Q3.out] at HCT
  go_wp2_with fail
  refine HCT.out.mono ?_
  rintro e w5 ⟨rfl, b5⟩
  have HS5 := Lib.hid (HS4.out.below b5)
  have B5 := Lib.hid (below_next B4.out b5)
  clear b5
  go_wp2_with fail
  refine (sall_is HS5.out).mono ?_
  rintro e w6 ⟨v, rfl, ho, b6⟩
  obtain ⟨a, c, rfl, _, _, _⟩ := ho.reads
  rw [Q4.out]
  have B6 := Lib.hid (below_next B5.out b6)
  clear ho b6
  go_wp2
  go_ret
  exact ⟨rfl, B6.out⟩
end Go.Proofs.Ytbpklbicbeckdaa
