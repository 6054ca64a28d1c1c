/- The document's WriteSlots: what it makes of a list is what the program makes. -/
import Derived.Test.YtgakidimipipeaaGbiabcobl
import Derived.Test.YtgakidimipipeaaGhmedploj
namespace Go.Proofs.Ytgakidimipipeaa
open Go.RowKit Go.Sort
set_option linter.unusedVariables false
set_option linter.unusedSimpArgs false
set_option maxRecDepth 100000

theorem fldsSlot {l : List FldD} (h : IsFSlot l) : ∀ x ∈ l, FldOk x := by
  obtain ⟨z0, z1, z2, z3, rfl, k0, k1, k2, k3⟩ := h
  intro x hx
  simp only [fldSlot, List.mem_cons, List.not_mem_nil, or_false] at hx
  rcases hx with rfl | rfl | rfl | rfl
  · exact ⟨by dsimp only; omega, by dsimp only; omega, k0⟩
  · exact ⟨by dsimp only; omega, by dsimp only; omega, (by unfold I64; dsimp only; omega)⟩
  · exact ⟨by dsimp only; omega, by dsimp only; omega, k2⟩
  · exact ⟨by dsimp only; omega, by dsimp only; omega, k3⟩
theorem fldsSlot_flat {L : List (List FldD)} (h : ∀ x ∈ L, IsFSlot x) : ∀ x ∈ L.flatten, FldOk x := by
  intro x hx
  obtain ⟨l, hl, hx⟩ := List.mem_flatten.1 hx
  exact fldsSlot (h l hl) x hx
theorem flenSlot {L : List (List FldD)} (h : ∀ x ∈ L, IsFSlot x) : L.flatten.length = L.length * 4 := by
  induction L with
  | nil => rfl
  | cons x L ih =>
    rw [List.flatten_cons, List.length_append, isFSlot_length (h x (by simp)), ih fun y hy => h y (by simp [hy]), List.length_cons, Nat.succ_mul]
    omega
noncomputable def okSlot (L : List (List FldD)) : Bool := decide ((writeSlot L).2 = 0)
theorem writeSlot_no {L : List (List FldD)} (h : upSlot L = false) : writeSlot L = (noughts, 1) := if_pos (.inl h)
theorem writeSlot_up {L : List (List FldD)} (hL : ∀ x ∈ L, IsFSlot x) (h : upSlot L = true) : (writeSlot L).1 = sealedL 4 (fieldsP L.flatten) ∧ okSlot L = okB (fieldsP L.flatten) := by
  have hk := okFs_iff (fldsSlot_flat hL)
  by_cases hr : roomU L.flatten
  · obtain ⟨h1, h2⟩ := wr_room hr
    have e : writeSlot L = (sealL 4 (wrB L.flatten), 0) := if_neg (by rw [h, h1]; simp)
    unfold okSlot
    rw [e, h2]
    refine ⟨?_, ?_⟩
    · show _ = if okFs _ then _ else _
      rw [if_pos (hk.2 hr), lowsF_is (fldsSlot_flat hL) hr]
    · show decide ((0 : Int) = 0) = decide (okFs _)
      rw [decide_eq_true (hk.2 hr)]
      rfl
  · have h1 := wr_bad hr
    have e : writeSlot L = (noughts, 1) := if_pos (.inr h1)
    unfold okSlot
    rw [e]
    refine ⟨?_, ?_⟩
    · show _ = if okFs _ then _ else _
      rw [if_neg (fun h => hr (hk.1 h))]
    · show decide ((1 : Int) = 0) = decide (okFs _)
      rw [decide_eq_false (fun h => hr (hk.1 h))]
      rfl
set_option maxHeartbeats 3200000 in
theorem rwriteSlots_is {w : World} (L : List (List FldD)) (hL : ∀ x ∈ L, IsFSlot x) (a : Option Addr) (cap : Nat) (hr : ReadsR w a 4 (L.map rowV)) (hl20 : L.length ≤ 20) :
    Calls Try.prog 54 #[.slice a L.length cap] w fun e w' => e = .returned (.tuple #[.agg (cells (writeSlot L).1), .bool (okSlot L)]) ∧ Below w.heap.size w w' := by
  have hz := zero_full
  have hbld := build_full
  have b1 := below_box w (.cells (cells noughts) 40)
  have n1 := heap_alloc_new w (.cells (cells noughts) 40)
  obtain ⟨w1, hw1⟩ : ∃ w1, w.alloc (.cells (cells noughts) 40) = w1 := ⟨_, rfl⟩
  have hs1 : w1.heap.size = w.heap.size + 1 := by rw [← hw1]; simp
  rw [hw1] at b1 n1
  have HB1 := Lib.hid b1
  have HR := Lib.hid hr
  have HL := Lib.hid hL
  obtain ⟨n, hn⟩ : ∃ n, L.length = n := ⟨_, rfl⟩
  have HN := Lib.hid hn
  rw [hn] at hl20 ⊢
  clear b1 hr hL hn
  go_enter Try.func54, Try.ntmps54
  go_wp2_with fail
  go_loopw [4, 5] (fun v i wr => ∃ k : Nat, k ≤ n ∧ i = .int .i64 k ∧ Hid (∀ x ∈ L.take k, maySlot x = true) ∧ Hid (OwnsR' w1.heap.size wr 172 2 v ((fieldsP (L.take k).flatten).map fieldV)) ∧ Hid (Below w1.heap.size w1 wr)) (fun _ i _ => n - (intOf i).toNat)
  case atStart => exact ⟨0, Nat.zero_le _, rfl, Lib.hid (by simp), Lib.hid (OwnsR'.nil _ _ _ _), Lib.hid (Below.refl _ _)⟩
  case round =>
    obtain ⟨k, hk, rfl, HA, HO, HB⟩ := hrel
    have n1r := (HB.out.block w.heap.size (by omega)).trans n1
    have HBW : Hid (Below w.heap.size w _) := Lib.hid (HB1.out.trans (HB.out.mono HB1.out.size))
    by_cases hlt : k < n
    · obtain ⟨x, hx⟩ : ∃ x, L[k]? = some x := ⟨_, List.getElem?_eq_getElem (by rw [HN.out]; exact hlt)⟩
      have hxi := HL.out x (List.mem_of_getElem? hx)
      have HXI := Lib.hid hxi
      obtain ⟨z0, z1, z2, z3, rfl, k0, k1, k2, k3⟩ := hxi
      obtain ⟨b, off, rfl, hb, hc⟩ := (HR.out.below HBW.out).row (show (L.map rowV)[k]? = some (rowV (fldSlot z0 z1 z2 z3)) by rw [List.getElem?_map, hx]; rfl)
      rename_i wr _
      have hcell : ∀ (i : Nat) (u : Value), (rowV (fldSlot z0 z1 z2 z3))[i]? = some u → wr.cell? ⟨b, off + k * 4 + i, none⟩ = some u := fun i u hi => by
        have h1 := hc i u hi
        rwa [← Nat.add_assoc] at h1
      have c_0 : wr.cell? ⟨b, off + k * 4, none⟩ = some (.int .i64 z0) := hcell 0 _ rfl
      have c_1 : wr.cell? ⟨b, off + k * 4 + 1, none⟩ = some (.int .u32 z1) := hcell 1 _ rfl
      have c_2 : wr.cell? ⟨b, off + k * 4 + 2, none⟩ = some (.int .i64 z2) := hcell 2 _ rfl
      have c_3 : wr.cell? ⟨b, off + k * 4 + 3, none⟩ = some (.int .i64 z3) := hcell 3 _ rfl
      have hx0 : (0 : Int) ≤ (k : Int) := by omega
      have hx1 : (k : Int) < (n : Int) := by omega
      have hw_1 : IntKind.i64.wrap z1 = z1 := IntWalk.i64_in _ (by omega)
      have HX := Lib.hid hx
      clear hc hcell hx hb
      by_cases hmy : 0 ≤ z3 ∧ z3 ≤ 2
      · obtain ⟨hmy1, hmy2⟩ := hmy
        have HMY : Hid (maySlot (fldSlot z0 z1 z2 z3) = true) := Lib.hid (decide_eq_true ⟨hmy1, hmy2⟩)
        have hd0 : decide (z3 < 0) = false := decide_eq_false (by omega)
        have hd1 : decide (2 < z3) = false := decide_eq_false (by omega)
        have hOb := (HO.out.alloc (.cells #[.int .i64 z0, .int .u32 z1, .int .i64 z2, .int .i64 z3] 27)).alloc (.cells #[.int .i64 4, .int .i64 z0, .int .i64 4, .int .i64 z1, .int .i64 2, .int .i64 z2, .int .i64 1, .int .i64 z3] 172)
        have HOB := Lib.hid hOb
        have hbelow : Below w1.heap.size w1 ((wr.alloc (.cells #[.int .i64 z0, .int .u32 z1, .int .i64 z2, .int .i64 z3] 27)).alloc (.cells #[.int .i64 4, .int .i64 z0, .int .i64 4, .int .i64 z1, .int .i64 2, .int .i64 z2, .int .i64 1, .int .i64 z3] 172)) := (HB.out.alloc HB.out.size _).alloc (by have := HB.out.size; simp; omega) _
        have HBB := Lib.hid hbelow
        have hnews : ReadsR ((wr.alloc (.cells #[.int .i64 z0, .int .u32 z1, .int .i64 z2, .int .i64 z3] 27)).alloc (.cells #[.int .i64 4, .int .i64 z0, .int .i64 4, .int .i64 z1, .int .i64 2, .int .i64 z2, .int .i64 1, .int .i64 z3] 172)) (some ⟨(wr.alloc (.cells #[.int .i64 z0, .int .u32 z1, .int .i64 z2, .int .i64 z3] 27)).heap.size, 0, none⟩) 2 [[.int .i64 4, .int .i64 z0], [.int .i64 4, .int .i64 z1], [.int .i64 2, .int .i64 z2], [.int .i64 1, .int .i64 z3]] := readsR_new _ _ (by intro p hp; simp only [List.mem_cons, List.not_mem_nil, or_false] at hp; rcases hp with rfl | rfl | rfl | rfl <;> rfl) rfl
        have HNEWS := Lib.hid hnews
        have hsz2 : (wr.alloc (.cells #[.int .i64 z0, .int .u32 z1, .int .i64 z2, .int .i64 z3] 27)).heap.size = wr.heap.size + 1 := by simp
        rw [hsz2] at HNEWS
        have HLEN : Hid (((fieldsP (L.take k).flatten).map fieldV).length = k * 4) := by
          show _ = _
          rw [List.length_map, fieldsP_length, flenSlot (fun x hx => HL.out x (List.mem_of_mem_take hx)), List.length_take, HN.out, Nat.min_eq_left (by omega)]
        clear hOb hbelow hnews hsz2 hmy1 hmy2
        go_wp2_with (at_builtin; refine wpList_append_rows' rfl _ _ _ rfl w1.heap.size 172 _ 2 16 Try.underlying170 info_field rfl (by decide) _ _ rfl HOB.out _ _ [[.int .i64 4, .int .i64 z0], [.int .i64 4, .int .i64 z1], [.int .i64 2, .int .i64 z2], [.int .i64 1, .int .i64 z3]] rfl HNEWS.out (fieldV_one [(4, z0), (4, z1), (2, z2), (1, z3)]) (by rw [HLEN.out]; simp; omega) (by rw [HLEN.out]; unfold maxLen; simp; omega) HBB.out.size ?_; intro v4 w4 o4 g4; have B4 := Lib.hid (HOB.out.grown HBB.out HBB.out.size g4); have O4 := Lib.hid o4; clear o4 g4)
        go_roundw
        case rel =>
          refine ⟨k + 1, by omega, by go_num, Lib.hid fun x hx => ?_, ?_, B4⟩
          · rw [List.take_add_one, HX.out] at hx
            rcases List.mem_append.1 hx with hx | hx
            · exact HA.out x hx
            · obtain rfl : x = fldSlot z0 z1 z2 z3 := by simpa using hx
              exact HMY.out
          · show OwnsR' _ _ _ _ _ _
            have e : (L.take (k + 1)).flatten = (L.take k).flatten ++ fldSlot z0 z1 z2 z3 := by rw [List.take_add_one, HX.out, List.flatten_append]; simp only [Option.toList_some, List.flatten_cons, List.flatten_nil, List.append_nil]
            rw [e, fieldsP_append, List.map_append]
            exact O4.out
        case measure => simp [intOf]; omega
      · have HMY : Hid (upSlot L = false) := by
          show _ = _
          unfold upSlot
          rw [List.all_eq_false.2 ⟨_, List.mem_of_getElem? HX.out, by show ¬ decide (0 ≤ z3 ∧ z3 ≤ 2) = true; rw [decide_eq_false hmy]; decide⟩, Bool.and_false]
        have HF := Lib.hid (writeSlot_no HMY.out)
        have HOK : Hid (okSlot L = false) := by show _ = _; unfold okSlot; rw [HF.out]; rfl
        have hbx := below_box wr (.cells #[.int .i64 z0, .int .u32 z1, .int .i64 z2, .int .i64 z3] 27)
        have n1x := (hbx.block w.heap.size (by have := HB.out.size; omega)).trans n1r
        have HBX : Hid (Below w.heap.size w (wr.alloc (.cells #[.int .i64 z0, .int .u32 z1, .int .i64 z2, .int .i64 z3] 27))) := Lib.hid (below_next HBW.out hbx)
        have hd9 := setRow_heap _ w.heap.size _ (cells noughts) _ _ n1x
        have hb9 := below_setRow (g := w.heap.size) HBX.out (Nat.le_refl _) (cells noughts)
        clear hbx
        by_cases h0 : z3 < 0
        · have hd0 : decide (z3 < 0) = true := decide_eq_true h0
          clear hmy h0
          go_wp2_with (refine wpList_store_full rfl _ _ rfl w.heap.size noughts rfl rfl rfl _ _ n1x rfl ?_)
          refine bodyPost_ret (results_full_tmp rfl _ _ w.heap.size noughts _ _ rfl hd9 rfl) rfl ?_
          exact ⟨by rw [HF.out, HOK.out]; rfl, hb9⟩
        · have hd0 : decide (z3 < 0) = false := decide_eq_false h0
          have hd1 : decide (2 < z3) = true := decide_eq_true (by omega)
          clear hmy h0
          go_wp2_with (refine wpList_store_full rfl _ _ rfl w.heap.size noughts rfl rfl rfl _ _ n1x rfl ?_)
          refine bodyPost_ret (results_full_tmp rfl _ _ w.heap.size noughts _ _ rfl hd9 rfl) rfl ?_
          exact ⟨by rw [HF.out, HOK.out]; rfl, hb9⟩
    · obtain rfl : k = n := by omega
      have hall : ∀ x ∈ L, maySlot x = true := by
        have h := HA.out
        rw [List.take_of_length_le (by rw [HN.out]; exact Nat.le_refl _)] at h
        exact h
      have hO := HO.out
      rw [List.take_of_length_le (by rw [HN.out]; exact Nat.le_refl _)] at hO
      obtain ⟨a4, c4, rfl, hr4, hl4, hc4⟩ := hO.reads
      have hlen4 : ((fieldsP L.flatten).map fieldV).length = k * 4 := by rw [List.length_map, fieldsP_length, flenSlot HL.out, HN.out]
      by_cases hm : k ≤ 10
      · have hmI : ¬ ((10 : Int) < (k : Int)) := by omega
        have hup : upSlot L = true := by unfold upSlot; rw [HN.out, decide_eq_true hm, Bool.true_and]; exact List.all_eq_true.2 hall
        obtain ⟨e1, e2⟩ := writeSlot_up HL.out hup
        have HE := Lib.hid (And.intro e1 e2)
        have hlow : (lowsF (fieldsP L.flatten)).length = k * 11 := by rw [lowsF_len, widths_flat (fun x hx => isFSlot_widths (HL.out x hx)), HN.out]
        have HSE := Lib.hid (rsealed_is 4 (by decide) (by decide) (fieldsP L.flatten) (fieldsP_ok (fldsSlot_flat HL.out)) (by rw [hlow]; omega) a4 _ c4 _ (readsF_of hr4) (by rw [fieldsP_length, flenSlot HL.out, HN.out]; omega))
        have hsl := writeSlot_length HL.out
        rw [e1] at hsl
        rw [hlen4]
        have hlenP : (fieldsP L.flatten).length = k * 4 := by rw [fieldsP_length, flenSlot HL.out, HN.out]
        rw [hlenP] at HSE
        clear e1 e2 hlow hall hup hO hr4 hl4 hc4 hlen4 hlenP
        go_wp2_with fail
        refine HSE.out.mono ?_
        rintro e w5 ⟨rfl, b5⟩
        have n25 := (b5.block w.heap.size (by have := HB.out.size; omega)).trans n1r
        have HB5 := Lib.hid (below_next HBW.out b5)
        obtain ⟨sl, hsle⟩ : ∃ x, sealedL 4 (fieldsP L.flatten) = x := ⟨_, rfl⟩
        rw [hsle] at hsl HE ⊢
        have hd9 := setRow_heap w5 w.heap.size _ (cells sl) _ _ n25
        have hb9 := below_setRow (g := w.heap.size) HB5.out (Nat.le_refl _) (cells sl)
        clear b5 hsle n1r
        go_wp2_with (refine wpList_store_full rfl _ _ rfl w.heap.size sl rfl rfl hsl _ _ n25 rfl ?_)
        refine bodyPost_ret (results_full_tmp rfl _ _ w.heap.size sl _ _ rfl hd9 hsl) rfl ?_
        exact ⟨by rw [HE.out.1, HE.out.2]; rfl, hb9⟩
      · have hmI : ((10 : Int) < (k : Int)) := by omega
        have hup : upSlot L = false := by unfold upSlot; rw [HN.out, decide_eq_false hm, Bool.false_and]
        have HF := Lib.hid (writeSlot_no hup)
        have HOK : Hid (okSlot L = false) := by show _ = _; unfold okSlot; rw [HF.out]; rfl
        have hd9 := setRow_heap _ w.heap.size _ (cells noughts) _ _ n1r
        have hb9 := below_setRow (g := w.heap.size) HBW.out (Nat.le_refl _) (cells noughts)
        clear hall hup hO hr4 hl4 hc4 hlen4
        go_wp2_with (refine wpList_store_full rfl _ _ rfl w.heap.size noughts rfl rfl rfl _ _ n1r rfl ?_)
        refine bodyPost_ret (results_full_tmp rfl _ _ w.heap.size noughts _ _ rfl hd9 rfl) rfl ?_
        exact ⟨by rw [HF.out, HOK.out]; rfl, hb9⟩
end Go.Proofs.Ytgakidimipipeaa
