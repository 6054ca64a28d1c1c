/- Package clean: how segments are filled (dirty, Filled, Waste). -/
import Derived.Test.YtplkglepbedhoaaCleanMath
import Derived.WalkLawsBesides
namespace Go.Proofs.Ytplkglepbedhoaa
open Go.RowKit Go.Sort
set_option linter.unusedVariables false
set_option linter.unusedSimpArgs false
set_option maxRecDepth 100000

theorem info_flt16 : (Try.prog.info? 34).map (fun i => (i.zero, i.size, i.bytes)) = some (some (.float .f64 0), 1, 8) := by kernel_rfl
theorem cell_row16 {w : World} {g : Nat} {l : Array Value} {t : TypeId} {fr : Nat × Nat} (h : w.heap[g]? = some (.cells l t fr)) (i : Nat) : w.cell? ⟨g, i, none⟩ = l[i]? := by
  unfold World.cell?
  rw [h]
  rfl
theorem dirty_is (u : UseD) (w : World) : Calls Try.prog 75 #[.agg #[.int .i64 u.live, .int .i64 u.state, .int .u32 u.age]] w fun e w' => e = .returned (.bool (dirtyU u)) ∧ Below w.heap.size w w' := by
  unfold dirtyU
  go_enter Try.func75, Try.ntmps75
  go_wp2
  go_ret
  exact ⟨rfl, below_box _ _⟩
theorem enters_dirty (args : Array Value) (w : World) : (callFunc 75 args).run Try.prog w = .ok (.enter 75 args) w := enters_of Try.func75 (by kernel_rfl) rfl args w
theorem enters_half (args : Array Value) (w : World) : (callFunc 74 args).run Try.prog w = .ok (.enter 74 args) w := enters_of Try.func74 (by kernel_rfl) rfl args w
theorem dirty_pred (w : World) : PredV 75 #[] (fun u => .agg (useV u).toArray) (fun _ => True) dirtyU w := fun W u _ _ => dirty_is u W
theorem half_pred (w : World) : PredV 74 #[] (fun u => .agg (useV u).toArray) (fun _ => True) halfU w := by
  intro W u _ hB
  clear hB
  show Calls Try.prog 74 #[.agg #[.int .i64 u.live, .int .i64 u.state, .int .u32 u.age]] W _
  have hb := below_box W (.cells #[.int .i64 u.live, .int .i64 u.state, .int .u32 u.age] 28)
  have HB := Lib.hid hb
  have hD := fun V => dirty_is u V
  unfold dirtyU at hD
  unfold halfU
  cases h1 : u.state == 1 with
  | true =>
    rw [h1] at hD
    clear hb
    go_enter Try.func74, Try.ntmps74
    go_wp2_with fail
    refine (hD _).mono ?_
    rintro e w' ⟨rfl, b'⟩
    go_wp2
    go_ret
    exact ⟨rfl, below_next HB.out b'⟩
  | false =>
    rw [h1] at hD
    obtain ⟨w2, hw2⟩ : ∃ w2, W.alloc (.cells #[.int .i64 u.live, .int .i64 u.state, .int .u32 u.age] 28) = w2 := ⟨_, rfl⟩
    have n2 := heap_alloc_new W (.cells #[.int .i64 u.live, .int .i64 u.state, .int .u32 u.age] 28)
    rw [hw2] at hb HB n2
    have hs : W.heap.size < w2.heap.size := by rw [← hw2]; simp
    have d0 : w2.cell? ⟨W.heap.size, 0, none⟩ = some (.int .i64 u.live) := cell_row16 n2 0
    have d1 : w2.cell? ⟨W.heap.size, 1, none⟩ = some (.int .i64 u.state) := cell_row16 n2 1
    have d2 : w2.cell? ⟨W.heap.size, 2, none⟩ = some (.int .u32 u.age) := cell_row16 n2 2
    clear hb
    go_enter Try.func74, Try.ntmps74
    go_wp2_with fail
    refine (hD _).mono ?_
    rintro e w' ⟨rfl, b'⟩
    have c1 : w'.cell? ⟨W.heap.size, 1, none⟩ = some (.int .i64 u.state) := cell_row16 ((b'.block _ hs).trans n2) 1
    go_wp2
    go_ret
    exact ⟨by simp, below_next HB.out b'⟩
theorem part_num16 (live room : Int) (r : Nat) (w : World) (h : Ieee.double.div (floatOfInt .f64 live) (floatOfInt .f64 room) = some r) :
    Calls Try.prog 147 #[.int .i64 live, .int .i64 room] w fun e w' => e = .returned (.float .f64 r) ∧ w = w' := by
  have hrun := fun W => run_float_arith (P := Try.prog) W .quo 34 .f64 _ _ r h
  clear h
  go_enter Try.func147, Try.ntmps147
  go_wp2
  go_ret
  exact ⟨rfl, rfl⟩
def FltPost (w : World) (l : List Nat) (e : Ending) (w' : World) : Prop := ∃ v, e = .returned v ∧ OwnsV w.heap.size w' 34 v (fltsV l) ∧ Below w.heap.size w w'
theorem fltsV_snoc (l : List Nat) (b : Nat) : fltsV (l ++ [b]) = fltsV l ++ [.float .f64 b] := by unfold fltsV; rw [List.map_append]; rfl
theorem partsL_len (room : Int) (us : List UseD) (l : List Nat) : (fltsV (partsL room us l)).length = l.length := by unfold fltsV partsL; simp
theorem partsL_take {room : Int} {us : List UseD} {S : List Nat} {k i : Nat} {u : UseD} (h : S[k]? = some i) (hu : us[i]? = some u) : fltsV (partsL room us (S.take (k + 1))) = fltsV (partsL room us (S.take k)) ++ [.float .f64 (wordQ room u.live)] := by
  rw [List.take_add_one, h]
  unfold partsL
  rw [List.map_append]
  show fltsV (_ ++ [wordQ room (liveAt us i)]) = _
  rw [fltsV_snoc, liveAt_get hu]

set_option maxHeartbeats 1600000 in
theorem parts_is (us : List UseD) (a : Option Addr) (cap : Nat) (w : World) (hr : ReadsR w a 3 (usesV us)) (hn : us.length ≤ 1000) (hf : FineU us) (room : Int) (h0 : 1 ≤ room) (h1 : room ≤ 4096)
    (p : UseD → Bool) (g : Nat) (eg : ∀ args w, (callFunc g args).run Try.prog w = .ok (.enter g args) w) (hp : PredV g #[] (fun u => .agg (useV u).toArray) (fun _ => True) p w) :
    Calls Try.prog 73 #[.slice a us.length cap, .int .i64 room, .func (.func g) #[] #[]] w (FltPost w (partsL room us (placesL p us us.length))) := by
  have hpl := places_use us a cap w hr (by omega) (fun _ => True) (fun _ _ => trivial) p g #[] eg hp
  obtain ⟨S, hS⟩ : ∃ S, placesL p us us.length = S := ⟨_, rfl⟩
  have hmem : ∀ i ∈ S, i < us.length := fun i hi => by rw [← hS] at hi; exact (placesL_mem hi).1
  have hlen : S.length ≤ us.length := by rw [← hS]; exact placesL_length _ _ _
  have HP : Hid (∀ e w', PlacesPost w p us e w' → ∃ v, e = .returned v ∧ OwnsV w.heap.size w' 3 v (natV S) ∧ Below w.heap.size w w') := Lib.hid (fun e w' h => by unfold PlacesPost at h; rw [hS] at h; exact h)
  rw [hS]
  obtain ⟨n, hnn⟩ : ∃ n, us.length = n := ⟨_, rfl⟩
  rw [hnn] at hpl hn hlen hmem ⊢
  have HPL := Lib.hid (hpl.mono HP.out)
  have HR := Lib.hid hr
  have HF := Lib.hid hf
  have HM := Lib.hid hmem
  have HN := Lib.hid hnn
  obtain ⟨m, hm⟩ : ∃ m, S.length = m := ⟨_, rfl⟩
  rw [hm] at hlen
  have HSL := Lib.hid hm
  clear hpl hr hf hmem hS HP hnn hm hp
  go_enter Try.func73, Try.ntmps73
  go_wp2_with fail
  refine HPL.out.mono ?_
  rintro e w1 ⟨v, rfl, ho, b1⟩
  obtain ⟨x, c, rfl, hx, _, _⟩ := ho.reads
  rw [natV_length, HSL.out] at hx ⊢
  have HX := Lib.hid hx
  have B1 := Lib.hid b1
  clear hx b1 ho HPL
  go_wp2_with fail
  go_loopw [7, 14] (fun v i wr => ∃ k : Nat, k ≤ m ∧ i = .int .i64 k ∧ Hid (OwnsV w1.heap.size wr 34 v (fltsV (partsL room us (S.take k)))) ∧ Hid (Below w1.heap.size w1 wr)) (fun _ i _ => m - (intOf i).toNat)
  case atStart => exact ⟨0, Nat.zero_le _, rfl, OwnsV.nil _ _ _, Below.refl _ _⟩
  case round =>
    obtain ⟨k, hk, rfl, HO, HB⟩ := hrel
    by_cases hlt : k < m
    · obtain ⟨i, hi⟩ : ∃ i, S[k]? = some i := ⟨_, List.getElem?_eq_getElem (by rw [HSL.out]; exact hlt)⟩
      have hin : i < n := HM.out i (List.mem_of_getElem? hi)
      obtain ⟨u, hu⟩ : ∃ u, us[i]? = some u := ⟨_, List.getElem?_eq_getElem (by rw [HN.out]; exact hin)⟩
      obtain ⟨b2, o2, rfl, _, hc2⟩ := (HX.out.below HB.out).at (natV_get hi)
      obtain ⟨b, off, rfl, hb, hc⟩ := (HR.out.below (below_next B1.out HB.out)).row (usesV_get hu)
      have c0 : wr.cell? ⟨b, off + i * 3, none⟩ = some (.int .i64 u.live) := hc 0 _ rfl
      have hfu := HF.out u (List.mem_of_getElem? hu)
      have hq := (wordQ_is h0 h1 hfu.1 hfu.2).1
      have HNext : Hid (fltsV (partsL room us (S.take (k + 1))) = fltsV (partsL room us (S.take k)) ++ [.float .f64 (wordQ room u.live)]) := partsL_take hi hu
      have HLen : Hid ((fltsV (partsL room us (S.take k))).length ≤ 1000) := by show _ ≤ _; rw [partsL_len, List.length_take, HSL.out]; omega
      generalize wordQ room u.live = q at *
      have HQ := Lib.hid hq
      have hx1 : (0 : Int) ≤ (i : Int) := by omega
      have hx2 : (i : Int) < (n : Int) := by omega
      clear hc hi hu hb hfu hq
      go_wp2_with (first | (refine (part_num16 u.live room q wr HQ.out).mono ?_; rintro e w2 ⟨rfl, rfl⟩) | (at_builtin; refine wpList_append_vals rfl _ _ 29 rfl w1.heap.size 34 (.float .f64 0) 8 Try.underlying29 info_flt16 rfl _ _ rfl (HO.out.alloc _) _ _ _ rfl _ (ReadsV.lit wr #[.float .f64 q] 34) (by intro y hy; simp at hy; subst hy; rfl) (by have := HLen.out; simp; omega) (by have := HLen.out; unfold maxLen; simp; omega) (by have h2 := HB.out.size; simp; omega) ?_; intro v' w2 ho hg))
      go_roundw
      case rel =>
        refine ⟨k + 1, by omega, by go_num, ?_, ?_⟩
        · show OwnsV _ _ _ _ _
          rw [HNext.out]
          exact ho
        · refine (HO.out.alloc _).grown ?_ ?_ hg
          · exact HB.out.alloc HB.out.size _
          · have h2 := HB.out.size; simp; omega
      case measure => simp [intOf]; omega
    · have hkn : k = m := by omega
      subst hkn
      have HT : Hid (S.take k = S) := by show _ = _; rw [List.take_of_length_le (by rw [HSL.out]; omega)]
      rw [HT.out] at HO
      go_wp2
      go_ret
      exact ⟨_, rfl, HO.out.less B1.out.size, below_next B1.out HB.out⟩

theorem filled_is (us : List UseD) (a : Option Addr) (cap : Nat) (w : World) (hr : ReadsR w a 3 (usesV us)) (hn : us.length ≤ 1000) (hf : FineU us) (room : Int) (h0 : 1 ≤ room) (h1 : room ≤ 4096) :
    Calls Try.prog 12 #[.slice a us.length cap, .int .i64 room] w (FltPost w (partsL room us (placesL halfU us us.length))) := by
  have HP := Lib.hid (parts_is us a cap w hr hn hf room h0 h1 halfU 74 enters_half (half_pred w))
  obtain ⟨P, hP⟩ : ∃ P, partsL room us (placesL halfU us us.length) = P := ⟨_, rfl⟩
  rw [hP] at HP ⊢
  generalize us.length = n at *
  clear hP hr hn hf
  go_enter Try.func12, Try.ntmps12
  go_wp2_with fail
  refine HP.out.mono ?_
  rintro e w1 ⟨v, rfl, ho, b1⟩
  obtain ⟨x, c, rfl, _, _, _⟩ := ho.reads
  go_wp2
  go_ret
  exact ⟨_, rfl, ho, b1⟩
end Go.Proofs.Ytplkglepbedhoaa
