/- The law DrumlinPaths is true for every input: each part of a path may be a name, a block of them is written and read back, and what is written byte by byte costs as many blocks as it touches, and few besides. No condition but that the tables that the row lists (ptr.bounds, and two of Go's own library) read as the program's text lays them, to which the card ties them. -/
import Derived.Test.YtcpbffmffoneeaaDoorGbggaplpg
import Derived.Test.YtcpbffmffoneeaaDoorGindiadkb
import Derived.Test.YtcpbffmffoneeaaDoorGcbefiikj
import Derived.Test.YtcpbffmffoneeaaDoorGgkejbeao
import Derived.Test.YtcpbffmffoneeaaDoorLaid
import Derived.Test.YtcpbffmffoneeaaDoorCards
import Derived.Test.YtcpbffmffoneeaaDoorTie
import Derived.SevenTiedAt
import Derived.Lay
namespace Go.Proofs.YtcpbffmffoneeaaDoor
open Go.ChangeShapes Go.WideShapes Go.ChangeAt Go.RowKit Go.Sort
open Go.ChangeMaps (open_string)
set_option linter.unusedVariables false
set_option linter.unusedSimpArgs false
set_option maxRecDepth 100000

theorem bounds_of_three {W : World} (h : laidMetH Tryd.prog [("drumlin/ptr.bounds", Rows.laid_drumlin_ptr_bounds), ("unicode/utf8.acceptRanges", Rows.laid_unicode_utf8_acceptRanges), ("unicode/utf8.first", Rows.laid_unicode_utf8_first)] W) : BoundsAt W := by
  rw [MakeChecks.laidMetH_plain _ _ _ (by kernel_rfl)] at h
  have h1 : laidMet Tryd.prog [("drumlin/ptr.bounds", Rows.laid_drumlin_ptr_bounds)] W := by
    obtain ⟨ps, ⟨g1, t1, cs1, f1, p1, q1, hg1, ht1, hv1, hd1, _, hps⟩, h2, h3⟩ := h
    subst hps
    refine ⟨MemPlace.row ⟨g1, 0, none⟩ cs1.size ++ p1 ++ [], ⟨g1, t1, cs1, f1, p1, [], hg1, ht1, hv1, hd1, rfl, rfl⟩, ?_, fun b off hm => h3 b off ?_⟩
    · rw [List.append_nil]
      exact (List.nodup_append.1 h2).1
    · rw [List.append_nil] at hm
      exact List.mem_append_left _ hm
  exact bounds_of_laid (by rw [MakeChecks.laidMetH_plain _ _ _ (by kernel_rfl)]; exact h1)
theorem drumlinPaths_walk (s : ByteArray) (a n : Int) (w : World) (hw : BoundsAt w) (hs : s.size ≤ maxLen) (ha : I64 a) (hn : I64 n) : Calls Tryd.prog 3 #[.string s, .int .i64 a, .int .i64 n] w fun e w' => e = .returned (.bool true) ∧ Below w.heap.size w w' := by
  by_cases h : 300 < s.size
  · by_cases h0 : parseE (s.extract 0 300).data.toList = 0
    · exact paths_B1 s h hs _ _ _ _ (parse_path _) (parts_few _) h0 (fun e => parts_good e) a n ha hn w hw
    · exact paths_B0 s h hs _ _ _ _ (parse_path _) (parts_few _) h0 (fun e => parts_good e) a n ha hn w hw
  · by_cases h0 : parseE s.data.toList = 0
    · exact paths_A1 s h hs _ _ _ _ (parse_path _) (parts_few _) h0 (fun e => parts_good e) a n ha hn w hw
    · exact paths_A0 s h hs _ _ _ _ (parse_path _) (parts_few _) h0 (fun e => parts_good e) a n ha hn w hw
theorem drumlinPaths_met (os : Os) (args : Array Value) : laidMetH Tryd.prog [("drumlin/ptr.bounds", Rows.laid_drumlin_ptr_bounds), ("unicode/utf8.acceptRanges", Rows.laid_unicode_utf8_acceptRanges), ("unicode/utf8.first", Rows.laid_unicode_utf8_first)] ((World.laidAll Tryd.prog os [("drumlin/ptr.bounds", Rows.laid_drumlin_ptr_bounds), ("unicode/utf8.acceptRanges", Rows.laid_unicode_utf8_acceptRanges), ("unicode/utf8.first", Rows.laid_unicode_utf8_first)]).forCall (fun _ _ => 0) ⟨#[], args, []⟩).memory := by
  rw [MakeChecks.laidMetH_plain _ _ _ (by kernel_rfl)]; exact laidMet_laidAll _ (by kernel_rfl) (by kernel_rfl)
set_option maxRecDepth 100000 in
theorem drumlinPaths_lifted (os : Os) (started : os.Started) (H : Type) (enc : TypeId × Value → H) :
    ReturnsInHanded {} Tryd.checked os 3 .any (fun w args => (Rows.drumlinPathsSpec.pre enc Tryd.prog Tryd.f3 [] false w args ∧ laidMetH Tryd.prog [("drumlin/ptr.bounds", Rows.laid_drumlin_ptr_bounds), ("unicode/utf8.acceptRanges", Rows.laid_unicode_utf8_acceptRanges), ("unicode/utf8.first", Rows.laid_unicode_utf8_first)] w) ∧ sizedMet enc Tryd.prog Tryd.f3 (OpenSpec.ofChange Rows.drumlinPathsSpec) false w args) (Rows.drumlinPathsSpec.post enc Tryd.prog Tryd.f3 false true false false) :=
  law_laid (s := Rows.drumlinPathsSpec) started Tryd.func3 (by kernel_rfl) rfl (fun ds hd => by
        match ds, hd with
        | [_, _, _], _ => rfl) rfl
      (of_decide_eq_true (by kernel_rfl))
      (ChangeSpec.witness_shaped (enc := enc) (C := Tryd.checked) (os := os) (X := fun w _ => laidMetH Tryd.prog [("drumlin/ptr.bounds", Rows.laid_drumlin_ptr_bounds), ("unicode/utf8.acceptRanges", Rows.laid_unicode_utf8_acceptRanges), ("unicode/utf8.first", Rows.laid_unicode_utf8_first)] w) false (World.laidAll Tryd.prog os [("drumlin/ptr.bounds", Rows.laid_drumlin_ptr_bounds), ("unicode/utf8.acceptRanges", Rows.laid_unicode_utf8_acceptRanges), ("unicode/utf8.first", Rows.laid_unicode_utf8_first)]) #[.string ByteArray.empty, .int .i64 0, .int .i64 0] 8 (World.laidAll_os _ _ _) (World.shaped_of_ZipB (by kernel_rfl) (by kernel_rfl)) (by kernel_rfl) (by kernel_rfl) (by kernel_rfl) (drumlinPaths_met os _))
      (fun W base args ds ps hval hA hsz hL => by
        rw [Tryd.params3] at hA hval hsz
        obtain ⟨v0, vs0, d0, ds0, p0, q0, hargs, rfl, rfl, h0, r0⟩ := trodAll_cons hA
        obtain ⟨v1, vs1, d1, ds1, p1, q1, rfl, rfl, rfl, h1, r1⟩ := trodAll_cons r0
        obtain ⟨v2, vs2, d2, ds2, p2, q2, rfl, rfl, rfl, h2, r2⟩ := trodAll_cons r1
        obtain ⟨rfl, rfl, rfl⟩ := trodAll_nil r2
        obtain rfl : args = #[v0, v1, v2] := by cases args; simp_all
        simp only [DataW.weightsEach, List.all_append, Bool.and_eq_true] at hsz
        obtain ⟨z0, z1, z2, _⟩ := hsz
        obtain ⟨s, rfl, rfl, rfl, ws⟩ := open_string Tryd.underlying9 (hval 0 9 v0 rfl rfl) h0
        obtain ⟨s1, rfl, rfl, rfl, wf1⟩ := open_int Tryd.underlying3 (hval 1 3 v1 rfl rfl) h1
        obtain ⟨s2, rfl, rfl, rfl, wf2⟩ := open_int Tryd.underlying3 (hval 2 3 v2 rfl rfl) h2
        exact drumlinPaths_walk s s1 s2 W (bounds_of_three hL) ws (i64_of_wf wf1) (i64_of_wf wf2))

theorem drumlinPaths_holds : Rows.DrumlinPathsSaid :=
  OpenClaim.holds_of_wide 3 Tryd.f3 rfl rfl rfl rfl rfl rfl rfl ⟨rfl, rfl, rfl, rfl, rfl⟩ rfl rfl rfl rfl rfl (by kernel_rfl) Tryd.func3 (by kernel_rfl)
    (of_decide_eq_true (by kernel_rfl)) (by unfold Func.isWrapper; first | (rw [if_pos (by decide +kernel)]; kernel_rfl) | (rw [if_neg (by decide +kernel)]; exact ⟨rfl, rfl⟩))
    (fun os started H enc _ => drumlinPaths_lifted os started H enc)
/-- The tied card. -/
theorem drumlinPaths_card : Rows.DrumlinPathsCardSaid :=
  Claim7.holds_tied_plain_at .later [] [.data, .data, .pinned] true Rows.drumlinPathsCard.stood.harness false
    drumlinPaths_holds (fun _ h => by cases h) (by kernel_rfl) (fun _ h => by cases h) drumlinPaths_row_tie rfl ⟨rfl, rfl⟩ (by kernel_rfl) rfl
    (fun f fn hf hfn => by
      obtain rfl : f = 3 := Option.some.inj ((show Tryd.prog.funcNamed "drumlin/drumlintop.DrumlinPaths" = some 3 by kernel_rfl).symm.trans hf) |>.symm
      obtain rfl : fn = Tryd.f3 := (Option.some.inj (Tryd.func3.symm.trans hfn)).symm
      exact ⟨by kernel_rfl, fun j t ht => by
        rw [Tryd.params3] at ht
        have hm : t ∈ [9, 3, 3] := by simpa using Array.mem_of_getElem? ht
        have hall : ([9, 3, 3].all fun u => !Tryd.prog.wantsStandIn u) = true := by kernel_rfl
        exact (show Tryd.prog.wantsStandIn t = false by simpa using List.all_eq_true.1 hall t hm)⟩)
    (by kernel_rfl)
#print axioms drumlinPaths_card
end Go.Proofs.YtcpbffmffoneeaaDoor
