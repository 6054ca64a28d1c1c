/- usage.Rank: any numbers in their order, those that are none behind. -/
import Derived.Test.YtplkglepbedhoaaPick2
import Derived.Test.YtplkglepbedhoaaSorted
import Derived.Test.YtplkglepbedhoaaFloatMath
import Derived.WalkLawsBesides
namespace Go.Proofs.Ytplkglepbedhoaa
open Go.RowKit Go.Sort
set_option linter.unusedVariables false
set_option linter.unusedSimpArgs false
set_option maxRecDepth 100000

theorem isnan_of (b : Nat) : (FloatKind.f64.format.order b b != some .eq) = nanB b := by
  show (Ieee.double.order b b != some .eq) = nanB b
  cases h : nanB b with
  | true => rw [order_nan b h]; rfl
  | false => rw [order_self b h]; rfl
theorem lss_of (x y : Nat) : (FloatKind.f64.format.order x y == some .lt) = fltB x y := order_lt x y
theorem isnan_is (b : Nat) (w : World) : Calls Try.prog 206 #[.float .f64 b] w fun e w' => e = .returned (.bool (nanB b)) ∧ w = w' := by
  have h := isnan_of b
  go_enter Try.func206, Try.ntmps206
  go_wp2
  go_ret
  exact ⟨rfl, rfl⟩
theorem fless_is (x y : Nat) (w : World) : Calls Try.prog 151 #[.float .f64 x, .float .f64 y] w fun e w' => e = .returned (.bool (lessB x y)) ∧ w = w' := by
  have h := lss_of x y
  unfold lessB
  cases hf : fltB x y with
  | true =>
    rw [hf] at h
    go_enter Try.func151, Try.ntmps151
    go_wp2
    go_ret
    exact ⟨rfl, rfl⟩
  | false =>
    rw [hf] at h
    cases hy : nanB y with
    | true =>
      have HY := Lib.hid hy
      clear hf hy
      go_enter Try.func151, Try.ntmps151
      go_wp2_with fail
      refine (isnan_is y w).mono ?_
      rintro e w' ⟨rfl, rfl⟩
      rw [HY.out]
      go_wp2_with fail
      refine (isnan_is x w).mono ?_
      rintro e w' ⟨rfl, rfl⟩
      go_wp2
      go_ret
      exact ⟨by simp, rfl⟩
    | false =>
      have HY := Lib.hid hy
      clear hf hy
      go_enter Try.func151, Try.ntmps151
      go_wp2_with fail
      refine (isnan_is y w).mono ?_
      rintro e w' ⟨rfl, rfl⟩
      rw [HY.out]
      go_wp2
      go_ret
      exact ⟨by simp, rfl⟩
theorem cell_of_box (w : World) (v : Value) (t : TypeId) : (w.alloc (.cells #[v] t)).cell? ⟨w.heap.size, 0, none⟩ = some v := by
  unfold World.cell?
  rw [heap_alloc_new]
  rfl
def fltsV (l : List Nat) : List Value := l.map fun b => .float .f64 b
theorem fltsV_get {l : List Nat} {i b : Nat} (h : l[i]? = some b) : (fltsV l)[i]? = some (.float .f64 b) := by unfold fltsV; rw [List.getElem?_map, h]; rfl
theorem fltsV_one (l : List Nat) : OneCells (fltsV l) := by
  intro u hu
  unfold fltsV at hu
  rw [List.mem_map] at hu
  obtain ⟨x, _, rfl⟩ := hu
  rfl
def ltF (l : List Nat) (i j : Nat) : Bool := match l[i]?, l[j]? with
  | some x, some y => lessB x y
  | _, _ => false
theorem enters_all (args : Array Value) (w : World) : (callFunc 149 args).run Try.prog w = .ok (.enter 149 args) w := enters_of Try.func149 (by kernel_rfl) rfl args w
theorem enters_rless (args : Array Value) (w : World) : (callFunc 150 args).run Try.prog w = .ok (.enter 150 args) w := enters_of Try.func150 (by kernel_rfl) rfl args w
theorem all_pred (w : World) : PredV 149 #[] (fun b : Nat => .float .f64 b) (fun _ => True) (fun _ => true) w := by
  intro W b _ hB
  clear hB
  show Calls Try.prog 149 #[.float .f64 b] W _
  go_enter Try.func149, Try.ntmps149
  go_wp2
  go_ret
  exact ⟨rfl, Below.refl _ _⟩
set_option maxHeartbeats 1000000 in
theorem rless_pred (l : List Nat) (a : Option Addr) (cap : Nat) (w : World) (hr : ReadsV w a l.length (fltsV l)) (p : Nat) (hp : p < w.heap.size) (cp : w.cell? ⟨p, 0, none⟩ = some (.slice a l.length cap)) :
    LessV 150 #[.pointer (some ⟨p, 0, none⟩)] (fun i => i < l.length) (ltF l) w := by
  intro W i j hi hj hB
  have hu : l[i]? = some l[i] := List.getElem?_eq_getElem hi
  have hv : l[j]? = some l[j] := List.getElem?_eq_getElem hj
  have he : ltF l i j = lessB l[i] l[j] := by unfold ltF; rw [hu, hv]
  rw [he]
  have cp' := (hB.cell (p := ⟨p, 0, none⟩) hp).trans cp
  obtain ⟨b, off, rfl, _, hc1⟩ := (hr.below hB).at (fltsV_get hu)
  obtain ⟨b', off', e2, _, hc2⟩ := (hr.below hB).at (fltsV_get hv)
  obtain ⟨rfl, rfl⟩ : b = b' ∧ off = off' := by simpa using e2
  generalize l[i] = x at *
  generalize l[j] = y at *
  have hx1 : (0 : Int) ≤ (i : Int) := by omega
  have hx2 : (i : Int) < (l.length : Int) := by omega
  have hy1 : (0 : Int) ≤ (j : Int) := by omega
  have hy2 : (j : Int) < (l.length : Int) := by omega
  generalize l.length = n at *
  clear hB cp hu hv he hi hj hp hr e2
  show Calls Try.prog 150 #[.int .i64 i, .int .i64 j, .pointer (some ⟨p, 0, none⟩)] W _
  go_enter Try.func150, Try.ntmps150
  go_wp2
  go_quiet ((go_at_call 151; exact Calls.quiet_of_same ((fless_is x y _).mono fun _ _ ⟨h1, h2⟩ => ⟨h1, h2.symm⟩)))
  go_wp2
  go_ret
  exact ⟨rfl, below_drewN _ _⟩
def rankL (l : List Nat) : List Nat := sortL (ltF l) (List.range l.length)
theorem places_all (l : List Nat) : ∀ k, k ≤ l.length → placesL (fun _ => true) l k = List.range k
  | 0, _ => rfl
  | k + 1, h => by rw [placesL_yes (x := l[k]) (List.getElem?_eq_getElem (by omega)) rfl, places_all l k (by omega), List.range_succ]
def RankPost (w : World) (l : List Nat) (e : Ending) (w' : World) : Prop := ∃ a c, e = .returned (.slice a l.length c) ∧ ReadsV w' a l.length (natV l) ∧ l.length ≤ c ∧ Below w.heap.size w w'
set_option maxHeartbeats 1600000 in
theorem rank_is (l : List Nat) (a : Option Addr) (cap : Nat) (w : World) (hr : ReadsV w a l.length (fltsV l)) (hn : l.length ≤ 100000) :
    Calls Try.prog 77 #[.slice a l.length cap] w (RankPost w (rankL l)) := by
  have b1 := below_box w (.cells #[.slice a l.length cap] 29)
  have c1 := cell_of_box w (.slice a l.length cap) 29
  have HPL := Lib.hid (fun V (hV : Below (w.alloc (.cells #[.slice a l.length cap] 29)).heap.size (w.alloc (.cells #[.slice a l.length cap] 29)) V) => places_float l a cap V (hr.below (b1.trans (hV.mono b1.size))) hn (fun _ => True) (fun _ _ => trivial) (fun _ => true) _ #[] enters_all (all_pred V))
  have HSO := Lib.hid (fun V (hV : Below (w.alloc (.cells #[.slice a l.length cap] 29)).heap.size (w.alloc (.cells #[.slice a l.length cap] 29)) V) (x : Option Addr) (c : Nat) (hx : ReadsV V x (List.range l.length).length (natV (List.range l.length))) (hc : (List.range l.length).length ≤ c) =>
    sorted_is _ (List.range l.length) x c V hx (Nat.le_refl _) (by rw [List.length_range]; exact hn) hc (fun i => i < l.length) (fun i hi => List.mem_range.1 hi) (ltF l) 150 #[.pointer (some ⟨w.heap.size, 0, none⟩)] enters_rless
      (rless_pred l a cap V (hr.below (b1.trans (hV.mono b1.size))) w.heap.size (Nat.lt_of_lt_of_le (by simp) hV.size) ((hV.cell (p := ⟨w.heap.size, 0, none⟩) (by simp)).trans c1)))
  have hM : rankL l = sortL (ltF l) (List.range l.length) := rfl
  have hML : (rankL l).length = l.length := by rw [hM, sortL_length, List.length_range]
  have hPA : placesL (fun _ : Nat => true) l l.length = List.range l.length := places_all l _ (Nat.le_refl _)
  rw [← hM, List.length_range] at HSO
  have B1 := Lib.hid b1
  generalize rankL l = M at *
  have HPA := Lib.hid hPA
  have HML := Lib.hid hML
  clear hM hML hPA hr hn b1
  go_enter Try.func77, Try.ntmps77
  go_wp2_with fail
  refine (HPL.out _ (Below.refl _ _)).mono ?_
  rintro e w1 ⟨v, rfl, ho, b2⟩
  rw [HPA.out] at ho
  obtain ⟨x, c, rfl, hx, hc, _⟩ := ho.reads
  rw [natV_length, List.length_range] at hx hc ⊢
  have HX := Lib.hid hx
  have HC := Lib.hid hc
  have B2 := Lib.hid b2
  clear hx hc b2 ho
  go_wp2_with fail
  refine (HSO.out _ B2.out _ _ HX.out HC.out).mono ?_
  rintro e w2 ⟨y, d, rfl, hy, hd, b3⟩
  go_wp2
  go_ret
  exact ⟨y, d, by rw [HML.out]; rfl, by rw [HML.out]; exact hy, by rw [HML.out]; exact hd, below_next (below_next B1.out B2.out) b3⟩
end Go.Proofs.Ytplkglepbedhoaa
