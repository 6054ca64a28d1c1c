/- The law PtrCuts is true for every input: bytes are cut block by block just as the document says. No condition but that the table ptr.bounds reads as the program's text lays it, to which the card ties it. -/
import Derived.Test.YthipeaighngpfaaDoorRCut
import Derived.Test.YthipeaighngpfaaDoorCards
import Derived.Test.YthipeaighngpfaaDoorTie
import Derived.SevenTiedAt
namespace Go.Proofs.YthipeaighngpfaaDoor
open Go.ChangeShapes Go.WideShapes Go.ChangeAt Go.RowKit Go.Sort
set_option linter.unusedVariables false
set_option linter.unusedSimpArgs false
set_option maxRecDepth 100000

theorem run_neq_piece (a b c : Int) (w : World) : (binOp .neq 47 (.agg #[.int .i64 a, .int .i64 b, .int .i64 c]) (.agg #[.int .i64 a, .int .i64 b, .int .i64 c])).run Tryd.prog w = .ok (.bool false) w := by
  go_simp
/-- Rows of three, as they lie. -/
theorem rows_at {B : Nat} {w : World} {v : Value} {T : TypeId} {l : List (List Int)} (h : OwnsR B w T 3 v l) : ∃ v2 cp, v = .slice v2 l.length cp ∧ ∀ q r, l[q]? = some r →
    ∃ g, v2 = some ⟨g, 0, none⟩ ∧ g < w.heap.size ∧ w.cell? ⟨g, q * 3, none⟩ = some (.int .i64 (r[0]?.getD 0)) ∧ w.cell? ⟨g, q * 3 + 1, none⟩ = some (.int .i64 (r[1]?.getD 0)) ∧ w.cell? ⟨g, q * 3 + 2, none⟩ = some (.int .i64 (r[2]?.getD 0)) := by
  rcases h.head with ⟨rfl, hnil⟩ | ⟨g, cp, rfl, hg1, hg2, hc1, hc2, hcells⟩
  · subst hnil
    exact ⟨none, 0, rfl, fun q r hq => by simp at hq⟩
  · refine ⟨some ⟨g, 0, none⟩, cp, rfl, fun q r hq => ⟨g, rfl, hg2, ?_, ?_, ?_⟩⟩
    · have hlt := (List.getElem?_eq_some_iff.1 hq).1
      have := hcells q 0 hlt (by omega)
      rw [hq] at this
      simpa using this
    · have hlt := (List.getElem?_eq_some_iff.1 hq).1
      have := hcells q 1 hlt (by omega)
      rw [hq] at this
      simpa using this
    · have hlt := (List.getElem?_eq_some_iff.1 hq).1
      have := hcells q 2 hlt (by omega)
      rw [hq] at this
      simpa using this

set_option maxHeartbeats 3200000 in
theorem ptrCuts_walk (a n : Int) (w : World) (hw : BoundsAt w) (ha : I64 a) (hn : I64 n) : Calls Tryd.prog 6 #[.int .i64 a, .int .i64 n] w fun e w' => e = .returned (.bool true) ∧ Below w.heap.size w w' := by
  have HW := Lib.hid hw
  have HA := Lib.hid ha
  have HN := Lib.hid hn
  have HQ := Lib.hid run_neq_piece
  have hlen : (cutRows a n).length ≤ 1064 := by
    by_cases he : cutE a n = 0
    · rw [cutRows_ok he, cutR_length]
      unfold cutE at he
      split at he
      · omega
      · split at he
        · omega
        · exact cutN_le (by omega) (by omega)
    · rw [cutRows_none he]; simp
  clear hw ha hn
  go_enter Tryd.func6, Tryd.ntmps6
  go_wp2_with fail
  refine (awake7_true w HW.out).mono ?_
  rintro e w0 ⟨rfl, c0⟩
  have C0 := Lib.hid c0
  clear c0
  go_wp2_with fail
  refine (pcut_is a n w0 HA.out HN.out).mono ?_
  rintro e w1 ⟨v1, rfl, o1, c1⟩
  have C1 : Hid (Below w.heap.size w w1) := C0.out.trans (c1.mono C0.out.size)
  have O1 := Lib.hid o1
  clear c1 o1
  go_wp2_with fail
  refine (rcut_is a n w1 HA.out HN.out).mono ?_
  rintro e w2 ⟨v2, rfl, o2, c2⟩
  have C2 : Hid (Below w.heap.size w w2) := C1.out.trans (c2.mono C1.out.size)
  have O1b := O1.out.below c2
  obtain ⟨a1, cp1, rfl, h1⟩ := rows_at O1b
  obtain ⟨a2, cp2, rfl, h2⟩ := rows_at o2
  have H1 := Lib.hid h1
  have H2 := Lib.hid h2
  clear c2 O1b o2 h1 h2 O1
  generalize cutRows a n = rows at *
  generalize cutE a n = E at *
  obtain ⟨N, hN⟩ : ∃ N, rows.length = N := ⟨_, rfl⟩
  rw [hN] at hlen ⊢
  have HNN := Lib.hid hN
  clear hN
  go_wp2_with fail
  go_loopw [37] (fun j wr => ∃ q : Nat, q ≤ N ∧ j = .int .i64 q ∧ Below w2.heap.size w2 wr) (fun j _ => N - (intOf j).toNat)
  case atStart => exact ⟨0, Nat.zero_le _, rfl, Below.refl _ _⟩
  case round =>
    obtain ⟨q, hq, rfl, hB⟩ := hrel
    have HB := Lib.hid hB
    clear hB
    by_cases hqn : q < N
    · obtain ⟨r, hr⟩ : ∃ r, rows[q]? = some r := ⟨_, List.getElem?_eq_getElem (by have := HNN.out; omega)⟩
      obtain ⟨g, rfl, hg, d0, d1, d2⟩ := H1.out q r hr
      obtain ⟨g', rfl, hg', e0, e1, e2⟩ := H2.out q r hr
      generalize r[0]?.getD 0 = x at *
      generalize r[1]?.getD 0 = y at *
      generalize r[2]?.getD 0 = z at *
      have d0' := (HB.out.cell (p := ⟨g, q * 3, none⟩) hg).trans d0
      have d1' := (HB.out.cell (p := ⟨g, q * 3 + 1, none⟩) hg).trans d1
      have d2' := (HB.out.cell (p := ⟨g, q * 3 + 2, none⟩) hg).trans d2
      have e0' := (HB.out.cell (p := ⟨g', q * 3, none⟩) hg').trans e0
      have e1' := (HB.out.cell (p := ⟨g', q * 3 + 1, none⟩) hg').trans e1
      have e2' := (HB.out.cell (p := ⟨g', q * 3 + 2, none⟩) hg').trans e2
      have hgs := Nat.lt_of_lt_of_le hg HB.out.size
      have hgs' := Nat.lt_of_lt_of_le hg' HB.out.size
      have hqq : (q : Int) < (N : Int) := by omega
      have hne := HQ.out x y z
      have HBN : Hid (Below w2.heap.size w2 (wr.alloc (.cells #[.int .i64 x, .int .i64 y, .int .i64 z] 47))) := HB.out.alloc HB.out.size _
      clear d0 d1 d2 e0 e1 e2 hr hg hg'
      go_wp2_with fail
      go_quiet (fail)
      go_wp2
      go_roundw
      case rel => exact ⟨q + 1, by omega, by go_num, ⟨HBN.out.os, HBN.out.tape, HBN.out.output, HBN.out.size, HBN.out.block⟩⟩
      case measure => simp [intOf]; omega
    · have hge : ¬ ((q : Int) < (N : Int)) := by omega
      have HBF : Hid (Below w.heap.size w wr) := C2.out.trans (HB.out.mono C2.out.size)
      go_wp2
      go_ret
      exact ⟨rfl, HBF.out⟩
theorem ptrCuts_met (os : Os) (args : Array Value) : laidMetH Tryd.prog [("drumlin/ptr.bounds", Rows.laid_drumlin_ptr_bounds)] ((World.doorLaid Tryd.prog 400 os).forCall (fun _ _ => 0) ⟨#[], args, []⟩).memory :=
  laidMetH_of_parts3 (fuel := 8) (laidMet_of_run' 8 (by kernel_rfl) (by kernel_rfl)) (by kernel_rfl) (by kernel_rfl)
set_option maxRecDepth 100000 in
theorem ptrCuts_lifted (os : Os) (started : os.Started) (H : Type) (enc : TypeId × Value → H) :
    ReturnsInHanded {} Tryd.checked os 6 .any (fun w args => (Rows.ptrCutsSpec.pre enc Tryd.prog Tryd.f6 [] false w args ∧ laidMetH Tryd.prog [("drumlin/ptr.bounds", Rows.laid_drumlin_ptr_bounds)] w) ∧ sizedMet enc Tryd.prog Tryd.f6 (OpenSpec.ofChange Rows.ptrCutsSpec) false w args) (Rows.ptrCutsSpec.post enc Tryd.prog Tryd.f6 false true false false) :=
  law_laid (s := Rows.ptrCutsSpec) started Tryd.func6 (by kernel_rfl) rfl (fun ds hd => by
        match ds, hd with
        | [_, _], _ => rfl) rfl
      (of_decide_eq_true (by kernel_rfl))
      (ChangeSpec.witness_shaped (enc := enc) (C := Tryd.checked) (os := os) (X := fun w _ => laidMetH Tryd.prog [("drumlin/ptr.bounds", Rows.laid_drumlin_ptr_bounds)] w) false (World.doorLaid Tryd.prog 400 os) #[.int .i64 0, .int .i64 0] 8 rfl (World.shaped_of_RefB (by kernel_rfl) (by kernel_rfl)) (by kernel_rfl) (by kernel_rfl) (by kernel_rfl) (ptrCuts_met os _))
      (fun W base args ds ps hval hA hsz hL => by
        rw [Tryd.params6] at hA hval hsz
        obtain ⟨v0, vs0, d0, ds0, p0, q0, hargs, rfl, rfl, h0, r0⟩ := trodAll_cons hA
        obtain ⟨v1, vs1, d1, ds1, p1, q1, rfl, rfl, rfl, h1, r1⟩ := trodAll_cons r0
        obtain ⟨rfl, rfl, rfl⟩ := trodAll_nil r1
        obtain rfl : args = #[v0, v1] := by cases args; simp_all
        simp only [DataW.weightsEach, List.all_append, Bool.and_eq_true] at hsz
        obtain ⟨z0, z1, _⟩ := hsz
        obtain ⟨s, rfl, rfl, rfl, wf⟩ := open_int Tryd.underlying3 (hval 0 3 v0 rfl rfl) h0
        obtain ⟨s2, rfl, rfl, rfl, wf2⟩ := open_int Tryd.underlying3 (hval 1 3 v1 rfl rfl) h1
        exact ptrCuts_walk s s2 W (bounds_of_laid hL) (i64_of_wf wf) (i64_of_wf wf2))

theorem ptrCuts_holds : Rows.PtrCutsSaid :=
  OpenClaim.holds_of_wide 6 Tryd.f6 rfl rfl rfl rfl rfl rfl rfl ⟨rfl, rfl, rfl, rfl, rfl⟩ rfl rfl rfl rfl rfl (by kernel_rfl) Tryd.func6 (by kernel_rfl)
    (of_decide_eq_true (by kernel_rfl)) (by unfold Func.isWrapper; first | (rw [if_pos (by decide +kernel)]; kernel_rfl) | (rw [if_neg (by decide +kernel)]; exact ⟨rfl, rfl⟩))
    (fun os started H enc _ => ptrCuts_lifted os started H enc)
/-- The tied card. -/
theorem ptrCuts_card : Rows.PtrCutsCardSaid :=
  Claim7.holds_tied_plain_at .later [] [.data] true Rows.ptrCutsCard.stood.harness false
    ptrCuts_holds (fun _ h => by cases h) (by kernel_rfl) (fun _ h => by cases h) ptrCuts_row_tie rfl ⟨rfl, rfl⟩ (by kernel_rfl) rfl
    (fun f fn hf hfn => by
      obtain rfl : f = 6 := Option.some.inj ((show Tryd.prog.funcNamed "drumlin/drumlinlaw07.PtrCuts" = some 6 by kernel_rfl).symm.trans hf) |>.symm
      obtain rfl : fn = Tryd.f6 := (Option.some.inj (Tryd.func6.symm.trans hfn)).symm
      exact ⟨by kernel_rfl, fun j t ht => by
        rw [Tryd.params6] at ht
        have hm : t ∈ [3, 3] := by simpa using Array.mem_of_getElem? ht
        have hall : ([3, 3].all fun u => !Tryd.prog.wantsStandIn u) = true := by kernel_rfl
        exact (show Tryd.prog.wantsStandIn t = false by simpa using List.all_eq_true.1 hall t hm)⟩)
    (by kernel_rfl)
#print axioms ptrCuts_card
end Go.Proofs.YthipeaighngpfaaDoor
