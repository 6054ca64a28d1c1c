/- The law PtrCosts is true for every input: a file costs just what the document says: its blocks, and those on which they hang. No condition but that the table ptr.bounds reads as the program's text lays it, to which the card ties it. -/
import Derived.Test.YthipeaighngpfaaDoorRCost
import Derived.Test.YthipeaighngpfaaDoorAwake7
import Derived.Test.YthipeaighngpfaaDoorCards
import Derived.Test.YthipeaighngpfaaDoorTie
import Derived.SevenTiedAt
namespace Go.Proofs.YthipeaighngpfaaDoor
open Go.ChangeShapes Go.WideShapes Go.ChangeAt Go.RowKit Go.Sort
set_option linter.unusedVariables false
set_option linter.unusedSimpArgs false
set_option maxRecDepth 100000

def intsV (l : List Int) : List Value := l.map (Value.int .i64)
theorem intsV_length (l : List Int) : (intsV l).length = l.length := List.length_map ..
theorem intsV_append (l m : List Int) : intsV (l ++ m) = intsV l ++ intsV m := List.map_append
theorem intsV_one (l : List Int) : OneCells (intsV l) := by
  intro u hu
  unfold intsV at hu
  rw [List.mem_map] at hu
  obtain ⟨x, _, rfl⟩ := hu
  rfl
theorem readsI_of_V {w : World} {a : Option Addr} {len : Nat} {l : List Int} (h : ReadsV w a len (intsV l)) : ReadsI w a len l := by
  obtain ⟨h1, h2⟩ := h
  rw [intsV_length] at h1
  refine ⟨h1, ?_⟩
  rcases h2 with h2 | ⟨b, off, rfl, hb, hc⟩
  · exact .inl (List.map_eq_nil_iff.1 h2)
  · refine .inr ⟨b, off, rfl, hb, fun i hi => hc i _ ?_⟩
    unfold intsV
    rw [List.getElem?_map, List.getElem?_eq_getElem (by omega)]
    rfl
theorem readsV_of_I {w : World} {a : Option Addr} {len : Nat} {l : List Int} (h : ReadsI w a len l) : ReadsV w a len (intsV l) := by
  obtain ⟨h1, h2⟩ := h
  refine ⟨by rw [intsV_length]; exact h1, ?_⟩
  rcases h2 with rfl | ⟨b, off, rfl, hb, hc⟩
  · exact .inl rfl
  · refine .inr ⟨b, off, rfl, hb, fun i u hu => ?_⟩
    unfold intsV at hu
    rw [List.getElem?_map] at hu
    cases hx : l[i]? with
    | none => rw [hx] at hu; cases hu
    | some x =>
      rw [hx] at hu
      have hi : i < len := by have := (List.getElem?_eq_some_iff.1 hx).1; omega
      rw [hc i hi, hx, ← hu]
      rfl
theorem info_int : (Tryd.prog.info? 3).map (fun i => (i.zero, i.size, i.bytes)) = some (some (.int .i64 0), 1, 8) := by kernel_rfl
/-- The law's tail: what was cut to 200 at most. -/
def TailPre (w : World) (a : Option Addr) (len : Nat) (l : List Int) : Prop := ReadsI w a len l ∧ len ≤ 200 ∧ ∀ x ∈ l, I64 x

set_option maxHeartbeats 6400000 in
theorem ptrCosts_short (a : Option Addr) (len cap : Nat) (l : List Int) (x : Int) (w : World) (hw : BoundsAt w) (hr : ReadsI w a len l) (hlen : len ≤ 200) (hwf : ∀ y ∈ l, I64 y) (hx : I64 x) :
    Calls Tryd.prog 7 #[.slice a len cap, .int .i64 x] w fun e w' => e = .returned (.bool true) ∧ Below w.heap.size w w' := by
  have HW := Lib.hid hw
  have HR := Lib.hid hr
  have HWF := Lib.hid hwf
  have HXW := Lib.hid hx
  have HLEN := Lib.hid hlen
  have HRL := Lib.hid hr.1
  have hgt : ¬ (200 : Int) < (len : Int) := by omega
  clear hw hr hwf hx hlen
  go_enter Tryd.func7, Tryd.ntmps7
  go_wp2_with fail
  (with_reducible refine (awake7_true _ HW.out).mono ?_)
  rintro e w0 ⟨rfl, c0⟩
  have HW0 := Lib.hid (HW.out.below c0)
  have hrv : ReadsV w0 a len (intsV l) := (readsV_of_I HR.out).below c0
  have HR0 := Lib.hid hrv
  have B0 := Lib.hid c0
  have HRV : Hid (ReadsV w a len (intsV l)) := readsV_of_I HR.out
  clear c0 HR hrv
  go_wp2_with fail
  (with_reducible refine (cost_is l a len cap _ HW0.out (readsI_of_V HR0.out) HWF.out (by have := HLEN.out; omega)).mono ?_)
  rintro e w1 ⟨rfl, c1⟩
  have HW1 := Lib.hid (HW0.out.below c1)
  have HR1 := Lib.hid (HR0.out.below c1)
  have B1 := Lib.hid (below_next B0.out c1)
  clear c1 HW0 HR0 B0
  go_wp2_with fail
  (with_reducible refine (rhas_is l a len cap _ (readsI_of_V HR1.out) (by have := HLEN.out; omega)).mono ?_)
  rintro e w2 ⟨v2, rfl, o2, c2⟩
  have HW2 := Lib.hid (HW1.out.below c2)
  have HR2 := Lib.hid (HR1.out.below c2)
  have B2 := Lib.hid (below_next B1.out c2)
  obtain ⟨a2, cp2, rfl, r2, _, _⟩ := o2.reads
  rw [boolsV_length] at r2
  have R2 := Lib.hid r2
  have HBL := Lib.hid (boolsV_length (inL l))
  rw [HBL.out]
  clear c2 HW1 HR1 B1 o2 r2
  go_wp2_with fail
  (with_reducible refine (rcost_is (inL l) a2 cp2 _ R2.out).mono ?_)
  rintro e w3 ⟨rfl, rfl⟩
  rw [cost_in l]
  clear R2 HBL
  have hcm := costL_more l x
  have HCT := Lib.hid (costL_twice l)
  have hcb := costL_le l
  obtain ⟨N, hN⟩ : ∃ N, costL l = N := ⟨_, rfl⟩
  obtain ⟨M, hM⟩ : ∃ M, costL (l ++ [x]) = M := ⟨_, rfl⟩
  rw [hN, hM] at hcm
  rw [hN] at HCT hcb ⊢
  have HM := Lib.hid hM
  have hN1 : (N : Int) ≤ M := by omega
  have hN2 : (M : Int) ≤ N + 3 := by omega
  have hN3 : (N : Int) ≤ 1000 := by have h1 := HRL.out; have h2 := HLEN.out; omega
  clear hN hM hcm hcb
  have OA : Hid (OwnsV w.heap.size (w2.alloc (.cells #[] 3)) 3 (.slice (some ⟨w2.heap.size, 0, none⟩) 0 0) (intsV [])) := OwnsV.new #[] B2.out.size (by decide)
  have RA : Hid (ReadsV (w2.alloc (.cells #[] 3)) a len (intsV l)) := HR2.out.alloc _
  have BA : Hid (w.heap.size ≤ (w2.alloc (.cells #[] 3)).heap.size) := by have := B2.out.size; show _ ≤ _; simp; omega
  go_wp2_with (first
    | (at_builtin; refine wpList_append_vals rfl _ _ _ rfl w.heap.size 3 _ 8 Tryd.underlying49 info_int rfl (.slice (some ⟨w2.heap.size, 0, none⟩) 0 0) (intsV []) rfl OA.out a len cap rfl (intsV l) RA.out (intsV_one l) (by have := HLEN.out; simp only [intsV_length, List.length_nil]; omega) (by have := HLEN.out; unfold maxLen; simp only [intsV_length, List.length_nil]; omega) BA.out ?_; intro v3 w3 h1' h2'; have O3 := Lib.hid (show OwnsV w.heap.size w3 3 v3 (intsV l) from h1'); have G3 := Lib.hid (OwnsV.grown OA.out (B2.out.alloc B2.out.size _) BA.out h2'); clear h1' h2')
    | (at_builtin; refine wpList_append_vals rfl _ _ _ rfl w.heap.size 3 _ 8 Tryd.underlying49 info_int rfl v3 (intsV l) rfl (O3.out.alloc _) (some ⟨w3.heap.size, 0, none⟩) 1 1 rfl (intsV [x]) (ReadsV.lit w3 #[.int .i64 x] 3) (intsV_one [x]) (by have := HLEN.out; have := HRL.out; rw [intsV_length]; omega) (by have := HLEN.out; have := HRL.out; unfold maxLen; rw [intsV_length]; omega) (by have := G3.out.size; simp; omega) ?_; intro v4 w4 h1' h2'; have O4 := Lib.hid (show OwnsV w.heap.size w4 3 v4 (intsV (l ++ [x])) from (intsV_append l [x]) ▸ h1'); have G4 := Lib.hid (OwnsV.grown (O3.out.alloc (.cells #[.int .i64 x] 3)) (G3.out.alloc G3.out.size _) (by have := G3.out.size; simp; omega) h2'); clear h1' h2'))
  obtain ⟨a4, cp4, hv4, r4, _, _⟩ := O4.out.reads
  rw [intsV_length] at hv4 r4
  subst hv4
  have R4 := Lib.hid r4
  have hll : (l ++ [x]).length = len + 1 := by rw [List.length_append, HRL.out]; rfl
  have HLL := Lib.hid hll
  clear r4 hll
  (with_reducible refine (cost_is (l ++ [x]) a4 _ cp4 _ (HW.out.below G4.out) (readsI_of_V R4.out) ?_ ?_).mono ?_)
  · intro y hy
    rcases List.mem_append.1 hy with hy | hy
    · exact HWF.out y hy
    · simp at hy; subst hy; exact HXW.out
  · have := HLL.out; have := HLEN.out; omega
  rintro e w5 ⟨rfl, c5⟩
  rw [HM.out]
  have B5 : Hid (Below w.heap.size w w5) := G4.out.trans (c5.mono G4.out.size)
  clear c5 O3 G3 O4 G4 OA RA BA
  go_wp2_with fail
  (with_reducible refine (cost_is [] none 0 0 _ (HW.out.below B5.out) (readsI_of_V (ReadsV.nil _ _)) (by intro y hy; simp at hy) (by omega)).mono ?_)
  rintro e w6 ⟨rfl, c6⟩
  rw [costL_nil]
  have B6 : Hid (Below w.heap.size w w6) := B5.out.trans (c6.mono B5.out.size)
  have OA : Hid (OwnsV w.heap.size (w6.alloc (.cells #[] 3)) 3 (.slice (some ⟨w6.heap.size, 0, none⟩) 0 0) (intsV [])) := OwnsV.new #[] B6.out.size (by decide)
  have RA : Hid (ReadsV (w6.alloc (.cells #[] 3)) a len (intsV l)) := (HRV.out.below B6.out).alloc _
  have BA : Hid (w.heap.size ≤ (w6.alloc (.cells #[] 3)).heap.size) := by have := B6.out.size; show _ ≤ _; simp; omega
  clear c6
  go_wp2_with (first
    | (at_builtin; refine wpList_append_vals_want rfl _ _ _ rfl w.heap.size 3 _ 8 Tryd.underlying49 info_int rfl (.slice (some ⟨w6.heap.size, 0, none⟩) 0 0) (intsV []) rfl OA.out a len cap rfl (intsV l) RA.out (intsV_one l) (by have := HLEN.out; simp only [intsV_length, List.length_nil]; omega) (by have := HLEN.out; unfold maxLen; simp only [intsV_length, List.length_nil]; omega) BA.out ?_; intro v7 w7 h1' h2'; have O7 := Lib.hid (show OwnsV w.heap.size w7 3 v7 (intsV l) from h1'); have G7 := Lib.hid (OwnsV.grown OA.out (B6.out.alloc B6.out.size _) BA.out h2'); clear h1' h2')
    | (at_builtin; refine wpList_append_vals_want rfl _ _ _ rfl w.heap.size 3 _ 8 Tryd.underlying49 info_int rfl v7 (intsV l) rfl O7.out a len cap rfl (intsV l) (HRV.out.below G7.out) (intsV_one l) (by have := HLEN.out; have := HRL.out; rw [intsV_length]; omega) (by have := HLEN.out; have := HRL.out; unfold maxLen; rw [intsV_length]; omega) G7.out.size ?_; intro v8 w8 h1' h2'; have O8 := Lib.hid (show OwnsV w.heap.size w8 3 v8 (intsV (l ++ l)) from (intsV_append l l) ▸ h1'); have G8 := Lib.hid (OwnsV.grown O7.out G7.out G7.out.size h2'); clear h1' h2'))
  obtain ⟨a8, cp8, hv8, r8, _, _⟩ := O8.out.reads
  rw [intsV_length] at hv8 r8
  subst hv8
  have R8 := Lib.hid r8
  have hll : (l ++ l).length = len + len := by rw [List.length_append, HRL.out]
  have HLL2 := Lib.hid hll
  clear r8 hll
  (with_reducible refine (cost_is (l ++ l) a8 _ cp8 _ (HW.out.below G8.out) (readsI_of_V R8.out) ?_ ?_).mono ?_)
  · intro y hy
    rcases List.mem_append.1 hy with hy | hy
    · exact HWF.out y hy
    · exact HWF.out y hy
  · have := HLL2.out; have := HLEN.out; omega
  rintro e w9 ⟨rfl, c9⟩
  rw [HCT.out]
  have B9 : Hid (Below w.heap.size w w9) := G8.out.trans (c9.mono G8.out.size)
  clear c9
  go_wp2
  go_ret
  exact ⟨rfl, B9.out⟩
set_option maxHeartbeats 6400000 in
theorem ptrCosts_long (a : Option Addr) (len cap : Nat) (l : List Int) (x : Int) (w : World) (hw : BoundsAt w) (hr : ReadsI w a len l) (hlen : 200 < len) (hcap : len ≤ cap) (hwf : ∀ y ∈ l, I64 y) (hx : I64 x) :
    Calls Tryd.prog 7 #[.slice a len cap, .int .i64 x] w fun e w' => e = .returned (.bool true) ∧ Below w.heap.size w w' := by
  have HW := Lib.hid hw
  have hrv0 := (readsV_of_I hr).take (k := 200) (by omega)
  have htk : (intsV l).take 200 = intsV (l.take 200) := by unfold intsV; rw [List.map_take]
  rw [htk] at hrv0
  have hwf2 : ∀ y ∈ l.take 200, I64 y := fun y hy => hwf y (List.mem_of_mem_take hy)
  obtain ⟨b, off, rfl⟩ : ∃ b off, a = some ⟨b, off, none⟩ := by
    obtain ⟨h1, h2 | ⟨b, off, h2, _⟩⟩ := hr
    · rw [h2] at h1; simp at h1; omega
    · exact ⟨b, off, h2⟩
  obtain ⟨L, hL⟩ : ∃ L, l.take 200 = L := ⟨_, rfl⟩
  rw [hL] at hrv0 hwf2
  have hr := readsI_of_V hrv0
  have HR := Lib.hid hr
  have HWF := Lib.hid hwf2
  have HXW := Lib.hid hx
  have HLEN : Hid (200 ≤ 200) := Nat.le_refl 200
  have HRL := Lib.hid hr.1
  clear hrv0 hwf2 htk hL
  have hgt : (200 : Int) < (len : Int) := by omega
  have hc1 : (200 : Int) ≤ (cap : Int) := by omega
  have hc2 : 200 ≤ cap := by omega
  clear hw hr hwf hx
  go_enter Tryd.func7, Tryd.ntmps7
  go_wp2_with fail
  (with_reducible refine (awake7_true _ HW.out).mono ?_)
  rintro e w0 ⟨rfl, c0⟩
  have HW0 := Lib.hid (HW.out.below c0)
  have hrv : ReadsV w0 (some ⟨b, off, none⟩) 200 (intsV L) := (readsV_of_I HR.out).below c0
  have HR0 := Lib.hid hrv
  have B0 := Lib.hid c0
  have HRV : Hid (ReadsV w (some ⟨b, off, none⟩) 200 (intsV L)) := readsV_of_I HR.out
  clear c0 HR hrv
  go_wp2_with fail
  (with_reducible refine (cost_is L (some ⟨b, off, none⟩) 200 cap _ HW0.out (readsI_of_V HR0.out) HWF.out (by have := HLEN.out; omega)).mono ?_)
  rintro e w1 ⟨rfl, c1⟩
  have HW1 := Lib.hid (HW0.out.below c1)
  have HR1 := Lib.hid (HR0.out.below c1)
  have B1 := Lib.hid (below_next B0.out c1)
  clear c1 HW0 HR0 B0
  go_wp2_with fail
  (with_reducible refine (rhas_is L (some ⟨b, off, none⟩) 200 cap _ (readsI_of_V HR1.out) (by have := HLEN.out; omega)).mono ?_)
  rintro e w2 ⟨v2, rfl, o2, c2⟩
  have HW2 := Lib.hid (HW1.out.below c2)
  have HR2 := Lib.hid (HR1.out.below c2)
  have B2 := Lib.hid (below_next B1.out c2)
  obtain ⟨a2, cp2, rfl, r2, _, _⟩ := o2.reads
  rw [boolsV_length] at r2
  have R2 := Lib.hid r2
  have HBL := Lib.hid (boolsV_length (inL L))
  rw [HBL.out]
  clear c2 HW1 HR1 B1 o2 r2
  go_wp2_with fail
  (with_reducible refine (rcost_is (inL L) a2 cp2 _ R2.out).mono ?_)
  rintro e w3 ⟨rfl, rfl⟩
  rw [cost_in L]
  clear R2 HBL
  have hcm := costL_more L x
  have HCT := Lib.hid (costL_twice L)
  have hcb := costL_le L
  obtain ⟨N, hN⟩ : ∃ N, costL L = N := ⟨_, rfl⟩
  obtain ⟨M, hM⟩ : ∃ M, costL (L ++ [x]) = M := ⟨_, rfl⟩
  rw [hN, hM] at hcm
  rw [hN] at HCT hcb ⊢
  have HM := Lib.hid hM
  have hN1 : (N : Int) ≤ M := by omega
  have hN2 : (M : Int) ≤ N + 3 := by omega
  have hN3 : (N : Int) ≤ 1000 := by have h1 := HRL.out; have h2 := HLEN.out; omega
  clear hN hM hcm hcb
  have OA : Hid (OwnsV w.heap.size (w2.alloc (.cells #[] 3)) 3 (.slice (some ⟨w2.heap.size, 0, none⟩) 0 0) (intsV [])) := OwnsV.new #[] B2.out.size (by decide)
  have RA : Hid (ReadsV (w2.alloc (.cells #[] 3)) (some ⟨b, off, none⟩) 200 (intsV L)) := HR2.out.alloc _
  have BA : Hid (w.heap.size ≤ (w2.alloc (.cells #[] 3)).heap.size) := by have := B2.out.size; show _ ≤ _; simp; omega
  go_wp2_with (first
    | (at_builtin; refine wpList_append_vals rfl _ _ _ rfl w.heap.size 3 _ 8 Tryd.underlying49 info_int rfl (.slice (some ⟨w2.heap.size, 0, none⟩) 0 0) (intsV []) rfl OA.out (some ⟨b, off, none⟩) 200 cap rfl (intsV L) RA.out (intsV_one L) (by have := HLEN.out; simp only [intsV_length, List.length_nil]; omega) (by have := HLEN.out; unfold maxLen; simp only [intsV_length, List.length_nil]; omega) BA.out ?_; intro v3 w3 h1' h2'; have O3 := Lib.hid (show OwnsV w.heap.size w3 3 v3 (intsV L) from h1'); have G3 := Lib.hid (OwnsV.grown OA.out (B2.out.alloc B2.out.size _) BA.out h2'); clear h1' h2')
    | (at_builtin; refine wpList_append_vals rfl _ _ _ rfl w.heap.size 3 _ 8 Tryd.underlying49 info_int rfl v3 (intsV L) rfl (O3.out.alloc _) (some ⟨w3.heap.size, 0, none⟩) 1 1 rfl (intsV [x]) (ReadsV.lit w3 #[.int .i64 x] 3) (intsV_one [x]) (by have := HLEN.out; have := HRL.out; rw [intsV_length]; omega) (by have := HLEN.out; have := HRL.out; unfold maxLen; rw [intsV_length]; omega) (by have := G3.out.size; simp; omega) ?_; intro v4 w4 h1' h2'; have O4 := Lib.hid (show OwnsV w.heap.size w4 3 v4 (intsV (L ++ [x])) from (intsV_append L [x]) ▸ h1'); have G4 := Lib.hid (OwnsV.grown (O3.out.alloc (.cells #[.int .i64 x] 3)) (G3.out.alloc G3.out.size _) (by have := G3.out.size; simp; omega) h2'); clear h1' h2'))
  obtain ⟨a4, cp4, hv4, r4, _, _⟩ := O4.out.reads
  rw [intsV_length] at hv4 r4
  subst hv4
  have R4 := Lib.hid r4
  have hll : (L ++ [x]).length = 200 + 1 := by rw [List.length_append, HRL.out]; rfl
  have HLL := Lib.hid hll
  clear r4 hll
  (with_reducible refine (cost_is (L ++ [x]) a4 _ cp4 _ (HW.out.below G4.out) (readsI_of_V R4.out) ?_ ?_).mono ?_)
  · intro y hy
    rcases List.mem_append.1 hy with hy | hy
    · exact HWF.out y hy
    · simp at hy; subst hy; exact HXW.out
  · have := HLL.out; have := HLEN.out; omega
  rintro e w5 ⟨rfl, c5⟩
  rw [HM.out]
  have B5 : Hid (Below w.heap.size w w5) := G4.out.trans (c5.mono G4.out.size)
  clear c5 O3 G3 O4 G4 OA RA BA
  go_wp2_with fail
  (with_reducible refine (cost_is [] none 0 0 _ (HW.out.below B5.out) (readsI_of_V (ReadsV.nil _ _)) (by intro y hy; simp at hy) (by omega)).mono ?_)
  rintro e w6 ⟨rfl, c6⟩
  rw [costL_nil]
  have B6 : Hid (Below w.heap.size w w6) := B5.out.trans (c6.mono B5.out.size)
  have OA : Hid (OwnsV w.heap.size (w6.alloc (.cells #[] 3)) 3 (.slice (some ⟨w6.heap.size, 0, none⟩) 0 0) (intsV [])) := OwnsV.new #[] B6.out.size (by decide)
  have RA : Hid (ReadsV (w6.alloc (.cells #[] 3)) (some ⟨b, off, none⟩) 200 (intsV L)) := (HRV.out.below B6.out).alloc _
  have BA : Hid (w.heap.size ≤ (w6.alloc (.cells #[] 3)).heap.size) := by have := B6.out.size; show _ ≤ _; simp; omega
  clear c6
  go_wp2_with (first
    | (at_builtin; refine wpList_append_vals_want rfl _ _ _ rfl w.heap.size 3 _ 8 Tryd.underlying49 info_int rfl (.slice (some ⟨w6.heap.size, 0, none⟩) 0 0) (intsV []) rfl OA.out (some ⟨b, off, none⟩) 200 cap rfl (intsV L) RA.out (intsV_one L) (by have := HLEN.out; simp only [intsV_length, List.length_nil]; omega) (by have := HLEN.out; unfold maxLen; simp only [intsV_length, List.length_nil]; omega) BA.out ?_; intro v7 w7 h1' h2'; have O7 := Lib.hid (show OwnsV w.heap.size w7 3 v7 (intsV L) from h1'); have G7 := Lib.hid (OwnsV.grown OA.out (B6.out.alloc B6.out.size _) BA.out h2'); clear h1' h2')
    | (at_builtin; refine wpList_append_vals_want rfl _ _ _ rfl w.heap.size 3 _ 8 Tryd.underlying49 info_int rfl v7 (intsV L) rfl O7.out (some ⟨b, off, none⟩) 200 cap rfl (intsV L) (HRV.out.below G7.out) (intsV_one L) (by have := HLEN.out; have := HRL.out; rw [intsV_length]; omega) (by have := HLEN.out; have := HRL.out; unfold maxLen; rw [intsV_length]; omega) G7.out.size ?_; intro v8 w8 h1' h2'; have O8 := Lib.hid (show OwnsV w.heap.size w8 3 v8 (intsV (L ++ L)) from (intsV_append L L) ▸ h1'); have G8 := Lib.hid (OwnsV.grown O7.out G7.out G7.out.size h2'); clear h1' h2'))
  obtain ⟨a8, cp8, hv8, r8, _, _⟩ := O8.out.reads
  rw [intsV_length] at hv8 r8
  subst hv8
  have R8 := Lib.hid r8
  have hll : (L ++ L).length = 200 + 200 := by rw [List.length_append, HRL.out]
  have HLL2 := Lib.hid hll
  clear r8 hll
  (with_reducible refine (cost_is (L ++ L) a8 _ cp8 _ (HW.out.below G8.out) (readsI_of_V R8.out) ?_ ?_).mono ?_)
  · intro y hy
    rcases List.mem_append.1 hy with hy | hy
    · exact HWF.out y hy
    · exact HWF.out y hy
  · have := HLL2.out; have := HLEN.out; omega
  rintro e w9 ⟨rfl, c9⟩
  rw [HCT.out]
  have B9 : Hid (Below w.heap.size w w9) := G8.out.trans (c9.mono G8.out.size)
  clear c9
  go_wp2
  go_ret
  exact ⟨rfl, B9.out⟩

theorem ptrCosts_walk (a : Option Addr) (len cap : Nat) (l : List Int) (x : Int) (w : World) (hw : BoundsAt w) (hr : ReadsI w a len l) (hcap : len ≤ cap) (hwf : ∀ y ∈ l, I64 y) (hx : I64 x) :
    Calls Tryd.prog 7 #[.slice a len cap, .int .i64 x] w fun e w' => e = .returned (.bool true) ∧ Below w.heap.size w w' := by
  by_cases h : len ≤ 200
  · exact ptrCosts_short a len cap l x w hw hr h hwf hx
  · exact ptrCosts_long a len cap l x w hw hr (by omega) hcap hwf hx
theorem ptrCosts_met (os : Os) (args : Array Value) : laidMetH Tryd.prog [("drumlin/ptr.bounds", Rows.laid_drumlin_ptr_bounds)] ((World.doorLaid Tryd.prog 400 os).forCall (fun _ _ => 0) ⟨#[], args, []⟩).memory :=
  laidMetH_of_parts3 (fuel := 8) (laidMet_of_run' 8 (by kernel_rfl) (by kernel_rfl)) (by kernel_rfl) (by kernel_rfl)
set_option maxRecDepth 100000 in
theorem ptrCosts_lifted (os : Os) (started : os.Started) (H : Type) (enc : TypeId × Value → H) :
    ReturnsInHanded {} Tryd.checked os 7 .any (fun w args => (Rows.ptrCostsSpec.pre enc Tryd.prog Tryd.f7 [] false w args ∧ laidMetH Tryd.prog [("drumlin/ptr.bounds", Rows.laid_drumlin_ptr_bounds)] w) ∧ sizedMet enc Tryd.prog Tryd.f7 (OpenSpec.ofChange Rows.ptrCostsSpec) false w args) (Rows.ptrCostsSpec.post enc Tryd.prog Tryd.f7 false true false false) :=
  law_laid (s := Rows.ptrCostsSpec) started Tryd.func7 (by kernel_rfl) rfl (fun ds hd => by
        match ds, hd with
        | [_, _], _ => rfl) rfl
      (of_decide_eq_true (by kernel_rfl))
      (ChangeSpec.witness_shaped (enc := enc) (C := Tryd.checked) (os := os) (X := fun w _ => laidMetH Tryd.prog [("drumlin/ptr.bounds", Rows.laid_drumlin_ptr_bounds)] w) false (World.doorLaid Tryd.prog 400 os) #[.slice none 0 0, .int .i64 0] 8 rfl (World.shaped_of_RefB (by kernel_rfl) (by kernel_rfl)) (by kernel_rfl) (by kernel_rfl) (by kernel_rfl) (ptrCosts_met os _))
      (fun W base args ds ps hval hA hsz hL => by
        rw [Tryd.params7] at hA hval hsz
        obtain ⟨v0, vs0, d0, ds0, p0, q0, hargs, rfl, rfl, h0, r0⟩ := trodAll_cons hA
        obtain ⟨v1, vs1, d1, ds1, p1, q1, rfl, rfl, rfl, h1, r1⟩ := trodAll_cons r0
        obtain ⟨rfl, rfl, rfl⟩ := trodAll_nil r1
        obtain rfl : args = #[v0, v1] := by cases args; simp_all
        simp only [DataW.weightsEach, List.all_append, Bool.and_eq_true] at hsz
        obtain ⟨z0, z1, _⟩ := hsz
        obtain ⟨a, len, cap, l, rfl, hr, hc, _, hwf⟩ := open_nums (hval 0 49 v0 rfl rfl) h0 z0
        obtain ⟨x, rfl, rfl, rfl, wf⟩ := open_int Tryd.underlying3 (hval 1 3 v1 rfl rfl) h1
        exact ptrCosts_walk a len cap l x W (bounds_of_laid hL) hr hc (fun y hy => i64_of_wf (hwf y hy)) (i64_of_wf wf))

theorem ptrCosts_holds : Rows.PtrCostsSaid :=
  OpenClaim.holds_of_wide 7 Tryd.f7 rfl rfl rfl rfl rfl rfl rfl ⟨rfl, rfl, rfl, rfl, rfl⟩ rfl rfl rfl rfl rfl (by kernel_rfl) Tryd.func7 (by kernel_rfl)
    (of_decide_eq_true (by kernel_rfl)) (by unfold Func.isWrapper; first | (rw [if_pos (by decide +kernel)]; kernel_rfl) | (rw [if_neg (by decide +kernel)]; exact ⟨rfl, rfl⟩))
    (fun os started H enc _ => ptrCosts_lifted os started H enc)
/-- The tied card. -/
theorem ptrCosts_card : Rows.PtrCostsCardSaid :=
  Claim7.holds_tied_plain_at .later [] [.data] true Rows.ptrCostsCard.stood.harness false
    ptrCosts_holds (fun _ h => by cases h) (by kernel_rfl) (fun _ h => by cases h) ptrCosts_row_tie rfl ⟨rfl, rfl⟩ (by kernel_rfl) rfl
    (fun f fn hf hfn => by
      obtain rfl : f = 7 := Option.some.inj ((show Tryd.prog.funcNamed "drumlin/drumlinlaw07.PtrCosts" = some 7 by kernel_rfl).symm.trans hf) |>.symm
      obtain rfl : fn = Tryd.f7 := (Option.some.inj (Tryd.func7.symm.trans hfn)).symm
      exact ⟨by kernel_rfl, fun j t ht => by
        rw [Tryd.params7] at ht
        have hm : t ∈ [49, 3] := by simpa using Array.mem_of_getElem? ht
        have hall : ([49, 3].all fun u => !Tryd.prog.wantsStandIn u) = true := by kernel_rfl
        exact (show Tryd.prog.wantsStandIn t = false by simpa using List.all_eq_true.1 hall t hm)⟩)
    (by kernel_rfl)
#print axioms ptrCosts_card
end Go.Proofs.YthipeaighngpfaaDoor
