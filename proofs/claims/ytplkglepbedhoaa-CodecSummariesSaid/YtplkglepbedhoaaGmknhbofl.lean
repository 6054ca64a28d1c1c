/- The document's WriteSummary: what it makes of a summary is what the program makes. -/
import Derived.Test.YtplkglepbedhoaaGdgdlikae
import Derived.Test.YtplkglepbedhoaaGjibojjfc
import Derived.Deep.DeepCutAuto
namespace Go.Proofs.Ytplkglepbedhoaa
open Go.RowKit Go.Sort
set_option linter.unusedVariables false
set_option linter.unusedSimpArgs false
set_option maxRecDepth 100000

noncomputable def sumOk (D : SumD) : Bool := decide ((writeD D).2 = 0)
def flagB (c : Bool) : Nat := if c then 1 else 0
/-- The bytes ahead of the entries'. -/
def headB (y0 y1 : Nat) (c : Bool) (n y3 y4 : Nat) : List Nat := low y0 8 ++ low y1 8 ++ [flagB c, n] ++ low y3 2 ++ low y4 4
theorem headB_length (y0 y1 : Nat) (c : Bool) (n y3 y4 : Nat) : (headB y0 y1 c n y3 y4).length = 24 := by unfold headB; simp [low_length]
theorem low_one {x : Nat} (h : x < 256) : low x 1 = [x] := by
  show [x % 256] = [x]
  rw [Nat.mod_eq_of_lt h]
theorem lowsU_sumF {y0 y1 : Nat} {c : Bool} {n y3 y4 : Nat} (k0 : y0 < 18446744073709551616) (k1 : y1 < 18446744073709551616) (hn : n < 256) (h3 : y3 ≤ 65535) (h4 : y4 < 4294967296) : lowsU (sumF y0 y1 c n (y3 : Int) y4) = headB y0 y1 c n y3 y4 := by
  have u0 : u64of (y0 : Int) = y0 := u64of_nat k0
  have u1 : u64of (y1 : Int) = y1 := u64of_nat k1
  have u2 : u64of (flagN c) = flagB c := by cases c <;> rfl
  have u3 : u64of (n : Int) = n := u64of_nat (by omega)
  have u4 : u64of (y3 : Int) = y3 := u64of_nat (by omega)
  have u5 : u64of (y4 : Int) = y4 := u64of_nat (by omega)
  unfold lowsU sumF headB
  simp only [List.flatMap_cons, List.flatMap_nil, u0, u1, u2, u3, u4, u5, low_one hn, low_one (show flagB c < 256 by unfold flagB; split <;> decide)]
  simp
def entB (z0 z1 z2 z3 : Nat) : List Nat := [z0] ++ low z1 2 ++ low z2 4 ++ low z3 2
theorem lowsU_entry {z0 z1 z2 z3 : Nat} (h0 : z0 < 256) (h1 : z1 ≤ 65535) (h2 : z2 < 4294967296) (h3 : z3 ≤ 65535) : lowsU (fldEntry z0 z1 z2 z3) = entB z0 z1 z2 z3 := by
  have u0 : u64of (z0 : Int) = z0 := u64of_nat (by omega)
  have u1 : u64of (z1 : Int) = z1 := u64of_nat (by omega)
  have u2 : u64of (z2 : Int) = z2 := u64of_nat (by omega)
  have u3 : u64of (z3 : Int) = z3 := u64of_nat (by omega)
  unfold lowsU fldEntry entB
  simp only [List.flatMap_cons, List.flatMap_nil, u0, u1, u2, u3, low_one h0]
  simp
def goodE (x : List FldD) : Prop := mayEntry x = true ∧ roomU x
theorem writeD_f8 {D : SumD} (h : 8 < D.list.length) : writeD D = (noughts, 1) := writeD_bad (.inl (by unfold upEntry; rw [decide_eq_false (by omega), Bool.false_and]))
theorem writeD_fn {D : SumD} (h : OkD D) (hl : D.list.length ≤ 8) (hn : ¬ (0 ≤ D.next ∧ D.next ≤ 65535)) : writeD D = (noughts, 1) := writeD_bad (.inr fun hr => hn ((room_sumF h (by omega)).1 (room_append.1 hr).1))
theorem writeD_fe {D : SumD} {k : Nat} {x : List FldD} (hx : D.list[k]? = some x) (hn : ¬ goodE x) : writeD D = (noughts, 1) := by
  by_cases hm : mayEntry x = true
  · exact writeD_bad (.inr fun hr => hn ⟨hm, room_flat.1 (room_append.1 hr).2 x (List.mem_of_getElem? hx)⟩)
  · refine writeD_bad (.inl ?_)
    unfold upEntry
    rw [List.all_eq_false.2 ⟨x, List.mem_of_getElem? hx, hm⟩, Bool.and_false]
theorem writeD_fg {D : SumD} (h : OkD D) (hl : D.list.length ≤ 8) {y3 : Nat} (e3 : D.next = (y3 : Int)) (h3 : y3 ≤ 65535) (hg : ∀ x ∈ D.list, goodE x) : writeD D = (sealL 3 (headB D.seq D.first D.commit D.list.length y3 D.time ++ lowsU D.list.flatten), 0) := by
  have hu : upEntry D.list = true := by
    unfold upEntry
    rw [decide_eq_true hl, Bool.true_and]
    exact List.all_eq_true.2 fun x hx => (hg x hx).1
  have hr : roomU (allF D) := room_append.2 ⟨(room_sumF h (by omega)).2 (by rw [e3]; omega), room_flat.2 fun x hx => (hg x hx).2⟩
  rw [writeD_good hu hr]
  have : lowsU (allF D) = headB D.seq D.first D.commit D.list.length y3 D.time ++ lowsU D.list.flatten := by
    unfold allF
    rw [lowsU_append, e3, lowsU_sumF h.1 h.2.1 (by omega) h3 h.2.2.2.1]
  rw [this]
theorem goodE_is {z0 z1 z2 z3 : Int} (h0 : 1 ≤ z0 ∧ z0 ≤ 6) (h1 : 0 ≤ z1 ∧ z1 ≤ 65535) (h2 : 0 ≤ z2 ∧ z2 < 4294967296) (h3 : 0 ≤ z3 ∧ z3 ≤ 65535) : goodE (fldEntry z0 z1 z2 z3) :=
  ⟨decide_eq_true h0, (room_entry h0 ⟨h1.1, by omega⟩ h2 (by unfold I64; omega)).2 ⟨h1.2, h3⟩⟩
theorem goodE_no {z0 z1 z2 z3 : Int} (i1 : 0 ≤ z1 ∧ z1 < 4294967296) (i2 : 0 ≤ z2 ∧ z2 < 4294967296) (i3 : I64 z3) (h : z0 < 1 ∨ 6 < z0 ∨ 65535 < z1 ∨ z3 < 0 ∨ 65535 < z3) : ¬ goodE (fldEntry z0 z1 z2 z3) := by
  rintro ⟨hm, hr⟩
  have hm : 1 ≤ z0 ∧ z0 ≤ 6 := of_decide_eq_true hm
  have := (room_entry hm i1 i2 i3).1 hr
  omega
theorem lowsU_length : ∀ l : List FldD, (lowsU l).length = widths l
  | [] => rfl
  | x :: l => by
    show (low (u64of x.z) x.width ++ lowsU l).length = widths (x :: l)
    rw [List.length_append, low_length, lowsU_length l]
    rfl
theorem lowsU_flat_len {L : List (List FldD)} (h : ∀ x ∈ L, IsFEntry x) : (lowsU L.flatten).length = L.length * 9 := by
  rw [lowsU_length, widths_flat (W := 9) (fun x hx => isFEntry_widths (h x hx))]
theorem box_grown17 {B : Nat} {w w' : World} {v : Value} {l : List Nat} {g : Nat} {cs : Array Value} {t : TypeId} (h : Owns B w v l) (hg : w.grownBy w' v.ownBlock) (hb : w.heap[g]? = some (.cells cs t (0, 0))) (ht : t ≠ 5) : w'.heap[g]? = some (.cells cs t (0, 0)) :=
  (hg.block g (Array.getElem?_eq_some_iff.1 hb).1 (fun e => owns_ne h hb ht g e.symm rfl)).trans hb
theorem reads_pair (w : World) (x y : Nat) (hx : x < 256) (hy : y < 256) : Reads (w.alloc (.cells #[.int .u8 (x : Int), .int .u8 (y : Int)] 5)) (some ⟨w.heap.size, 0, none⟩) 2 [x, y] := by
  refine ⟨rfl, by intro z hz; simp at hz; omega, .inr ⟨w.heap.size, 0, rfl, by simp, fun i hi => ?_⟩⟩
  have : i = 0 ∨ i = 1 := by omega
  rcases this with rfl | rfl <;>
  · unfold World.cell?
    rw [heap_alloc_new]
    rfl

set_option maxHeartbeats 3200000 in
theorem rwriteSum_is {w : World} {D : SumD} {a : Option Addr} {cap : Nat} (h : OkD D) (hr : ReadsR w a 4 (D.list.map rowV)) (hl : D.list.length ≤ 100) :
    Calls Try.prog 20 #[.agg (sumX D (.slice a D.list.length cap))] w fun e w' => e = .returned (.tuple #[.agg (cells (writeD D).1), .bool (sumOk D)]) ∧ Below w.heap.size w w' := by
  have hz := zero_full
  have hbld := build_full
  have hxa : sumX D (.slice a D.list.length cap) = #[.int .u64 D.seq, .int .u64 D.first, .bool D.commit, .int .i64 D.next, .int .u32 D.time, .slice a D.list.length cap] := rfl
  have hok : sumOk D = decide ((writeD D).2 = 0) := rfl
  rw [hxa, hok]
  have F8 : Hid (8 < D.list.length → writeD D = (noughts, 1)) := Lib.hid fun k => writeD_f8 k
  have FN : Hid (D.list.length ≤ 8 → ¬ (0 ≤ D.next ∧ D.next ≤ 65535) → writeD D = (noughts, 1)) := Lib.hid fun k1 k2 => writeD_fn h k1 k2
  have FE : Hid (∀ k x, D.list[k]? = some x → ¬ goodE x → writeD D = (noughts, 1)) := Lib.hid fun k x k1 k2 => writeD_fe k1 k2
  have FG : Hid (D.list.length ≤ 8 → ∀ y3 : Nat, D.next = (y3 : Int) → y3 ≤ 65535 → (∀ x ∈ D.list, goodE x) → writeD D = (sealL 3 (headB D.seq D.first D.commit D.list.length y3 D.time ++ lowsU D.list.flatten), 0)) := Lib.hid fun k1 y3 k2 k3 k4 => writeD_fg h k1 k2 k3 k4
  obtain ⟨k0, k1, k3, k4, hLL⟩ := h
  obtain ⟨res, hres⟩ : ∃ r, writeD D = r := ⟨_, rfl⟩
  rw [hres] at F8 FN FE FG ⊢
  obtain ⟨L, hL⟩ : ∃ L, D.list = L := ⟨_, rfl⟩
  rw [hL] at F8 FN FE FG hLL hl hr ⊢
  clear hxa hok hres hL
  generalize D.seq = y0 at *
  generalize D.first = y1 at *
  generalize D.commit = y2 at *
  generalize D.next = y3 at *
  generalize D.time = y4 at *
  clear D
  have b1 := below_box w (.cells #[.int .u64 y0, .int .u64 y1, .bool y2, .int .i64 y3, .int .u32 y4, .slice a L.length cap] 39)
  have n1 := heap_alloc_new w (.cells #[.int .u64 y0, .int .u64 y1, .bool y2, .int .i64 y3, .int .u32 y4, .slice a L.length cap] 39)
  obtain ⟨n, hn⟩ : ∃ n, L.length = n := ⟨_, rfl⟩
  rw [hn] at b1 n1 F8 FN FG hl ⊢
  have HN := Lib.hid hn
  have HL := Lib.hid hLL
  obtain ⟨w1, hw1⟩ : ∃ w1, w.alloc (.cells #[.int .u64 y0, .int .u64 y1, .bool y2, .int .i64 y3, .int .u32 y4, .slice a n cap] 39) = w1 := ⟨_, rfl⟩
  have hs1 : w1.heap.size = w.heap.size + 1 := by rw [← hw1]; simp
  rw [hw1] at b1 n1
  have b2 := below_box w1 (.cells (cells noughts) 41)
  have n2 := heap_alloc_new w1 (.cells (cells noughts) 41)
  have n1' := (b2.block w.heap.size (by omega)).trans n1
  have HB := Lib.hid (below_next b1 b2)
  rw [hs1] at n2
  obtain ⟨W, hw2⟩ : ∃ W, w1.alloc (.cells (cells noughts) 41) = W := ⟨_, rfl⟩
  rw [hw2] at n2 n1' HB
  have hs2 : W.heap.size = w.heap.size + 2 := by rw [← hw2]; simp [hs1]
  have HRW := Lib.hid (hr.below HB.out)
  clear b1 n1 b2 hn hLL hr
  have box : ∀ w', Below W.heap.size W w' → w'.cell? ⟨w.heap.size, 0, none⟩ = some (.int .u64 y0) ∧ w'.cell? ⟨w.heap.size, 1, none⟩ = some (.int .u64 y1) ∧ w'.cell? ⟨w.heap.size, 2, none⟩ = some (.bool y2) ∧ w'.cell? ⟨w.heap.size, 3, none⟩ = some (.int .i64 y3) ∧ w'.cell? ⟨w.heap.size, 4, none⟩ = some (.int .u32 y4) ∧ w'.cell? ⟨w.heap.size, 5, none⟩ = some (.slice a n cap) := by
    intro w' hb
    have nn := (hb.block w.heap.size (by omega)).trans n1'
    exact ⟨cell_of_row nn 0, cell_of_row nn 1, cell_of_row nn 2, cell_of_row nn 3, cell_of_row nn 4, cell_of_row nn 5⟩
  obtain ⟨c0, c1, c2, c3, c4, c5⟩ := box W (Below.refl _ _)
  have BOX := Lib.hid box
  have hsW : w.heap.size + 1 < W.heap.size := by omega
  unfold I64 at k3
  have N2 := Lib.hid n2
  -- the end of a summary that may not be
  have BAD := Lib.hid (fun (V : World) (hV : Below W.heap.size W V) => And.intro ((hV.block (w.heap.size + 1) (by omega)).trans n2) (And.intro (setRow_heap V (w.heap.size + 1) _ (cells noughts) _ _ ((hV.block (w.heap.size + 1) (by omega)).trans n2)) (below_setRow (g := w.heap.size + 1) (HB.out.trans (hV.mono HB.out.size)) (by omega) (cells noughts))))
  clear box n1' n2
  have hk0 : (y0 : Int) % 18446744073709551616 = y0 := by omega
  have hk1 : (y1 : Int) % 18446744073709551616 = y1 := by omega
  clear c2 c3 c4 c5
  go_enter Try.func20, Try.ntmps20
  go_wp2_with fail
  clear hw1 hw2 hs1
  have H0 := (Below.refl W.heap.size W).drew
  go_region_held3 (fun w' => w'.cell? ⟨w.heap.size, 0, none⟩ = some (.int .u64 y0) ∧ w'.cell? ⟨w.heap.size, 1, none⟩ = some (.int .u64 y1))
    (first | exact ⟨(BOX.out _ H0).1, (BOX.out _ H0).2.1⟩ | exact ⟨(BOX.out _ k5).1, (BOX.out _ k5).2.1⟩ | exact ⟨(BOX.out _ k6).1, (BOX.out _ k6).2.1⟩ | exact ⟨(BOX.out _ k7).1, (BOX.out _ k7).2.1⟩)
    ((first
      | (go_at_call_of 83 (Value.int IntKind.u64 (y0 : Int)); refine (low_any y0 8 _ (by decide) (by omega)).mono ?_; rintro e w5 ⟨v5, rfl, o5, b5⟩; have k5 := below_next H0 b5)
      | (go_at_call_of 83 (Value.int IntKind.u64 (y1 : Int)); refine (low_any y1 8 _ (by decide) (by omega)).mono ?_; rintro e w6 ⟨v6, rfl, o6, b6⟩; have k6 := below_next k5 b6; have o56 : Owns W.heap.size w6 v5 (low y0 8) := o5.below b6; obtain ⟨a6, c6, rfl, hrd6, _, _⟩ := o6.reads; rw [low_length] at hrd6 ⊢; obtain ⟨g6, f6, rfl⟩ := hrd6.some_of (by decide))
      | (refine step_append_bytes (by rfl) _ _ (by rfl) W.heap.size v5 (low y0 8) (by rfl) o56 g6 f6 8 c6 (by rfl) (low y1 8) hrd6 (by decide) (by rw [low_length]; decide) k6.size ?_; intro v7 w7 o7 g7; have k7 : Below W.heap.size W w7 := k6.grown g7 k6.size (fun j hj => o56.lt j hj))))
  rename_i hHeld
  have K7 := Lib.hid k7
  have O7 := Lib.hid o7
  clear hHeld o5 b5 k5 b6 k6 o56 o6 hrd6 g7 c0 c1 H0 hk0 hk1 o7 k7
  obtain ⟨_, _, c2, c3, c4, c5⟩ := BOX.out _ K7.out
  by_cases h8 : 8 < n
  · have HF := Lib.hid (F8.out h8)
    have h8' : decide ((8 : Int) < (n : Int)) = true := decide_eq_true (by omega)
    obtain ⟨nf, hd9, hb9⟩ := BAD.out w7 K7.out
    go_wp2_with (refine wpList_store_full rfl _ _ rfl (w.heap.size + 1) noughts rfl rfl rfl _ _ nf rfl ?_)
    refine bodyPost_ret (results_full_tmp rfl _ _ (w.heap.size + 1) noughts _ _ rfl hd9 rfl) rfl ?_
    exact ⟨by rw [HF.out]; rfl, hb9⟩
  · have h8' : decide ((8 : Int) < (n : Int)) = false := decide_eq_false (by omega)
    by_cases hnl : y3 < 0
    · have HF := Lib.hid (FN.out (by omega) (by omega))
      have hn1 : decide (y3 < 0) = true := decide_eq_true hnl
      obtain ⟨nf, hd9, hb9⟩ := BAD.out w7 K7.out
      go_wp2_with (refine wpList_store_full rfl _ _ rfl (w.heap.size + 1) noughts rfl rfl rfl _ _ nf rfl ?_)
      refine bodyPost_ret (results_full_tmp rfl _ _ (w.heap.size + 1) noughts _ _ rfl hd9 rfl) rfl ?_
      exact ⟨by rw [HF.out]; rfl, hb9⟩
    · by_cases hnh : 65535 < y3
      · have HF := Lib.hid (FN.out (by omega) (by omega))
        have hn1 : decide (y3 < 0) = false := decide_eq_false hnl
        have hn2 : decide (65535 < y3) = true := decide_eq_true hnh
        obtain ⟨nf, hd9, hb9⟩ := BAD.out w7 K7.out
        go_wp2_with (refine wpList_store_full rfl _ _ rfl (w.heap.size + 1) noughts rfl rfl rfl _ _ nf rfl ?_)
        refine bodyPost_ret (results_full_tmp rfl _ _ (w.heap.size + 1) noughts _ _ rfl hd9 rfl) rfl ?_
        exact ⟨by rw [HF.out]; rfl, hb9⟩
      · obtain ⟨y3', rfl⟩ := Int.eq_ofNat_of_zero_le (show 0 ≤ y3 by omega)
        have hy3 : y3' ≤ 65535 := by omega
        have HFG := Lib.hid (FG.out (by omega) y3' rfl hy3)
        have hn1 : decide ((y3' : Int) < 0) = false := decide_eq_false (by omega)
        have hn2 : decide ((65535 : Int) < (y3' : Int)) = false := decide_eq_false (by omega)
        clear FG FN F8 hnl
        go_upto_if 31 with (fail)
        go_cut [5] (fun s wx => w7 = wx ∧ s = .int .u8 (flagB y2 : Nat))
        case first =>
          cases y2
          · go_wp2
            go_meet
            exact ⟨rfl, rfl⟩
          · go_wp2
            go_meet
            exact ⟨rfl, rfl⟩
        case rest =>
          obtain ⟨rfl, rfl⟩ := hcut
          have hf256 : flagB y2 < 256 := by unfold flagB; split <;> decide
          have HRP := Lib.hid (reads_pair w7 (flagB y2) n hf256 (by omega))
          have hw8 : IntKind.u8.wrap (n : Int) = n := by simp [IntKind.wrap, IntKind.signed, IntKind.bits]; omega
          have OA := Lib.hid (O7.out.alloc (.cells #[.int .u8 (flagB y2 : Nat), .int .u8 (n : Int)] 5))
          have KA := Lib.hid (K7.out.alloc K7.out.size (.cells #[.int .u8 (flagB y2 : Nat), .int .u8 (n : Int)] 5))
          clear hf256
          go_wp2_with (at_builtin; refine wpList_append_bytes rfl _ _ rfl W.heap.size _ (low y0 8 ++ low y1 8) rfl OA.out _ _ _ rfl [flagB y2, n] HRP.out (by simp [low_length]) KA.out.size ?_; intro v8 w8 o8 g8; have k8 := KA.out.grown g8 KA.out.size (fun j hj => OA.out.lt j hj); obtain ⟨_, _, _, d3, _, _⟩ := BOX.out _ k8; have K8 := Lib.hid k8; have O8 := Lib.hid o8; clear g8 k8 o8)
          have hk3 : (y3' : Int) % 18446744073709551616 = y3' := by omega
          have hk4 : (y4 : Int) % 18446744073709551616 = y4 := by omega
          clear c2 c3 c4 c5 hw8
          go_wp2_with fail
          refine (low_any y3' 2 w8 (by decide) (by omega)).mono ?_
          rintro e x0 ⟨va0, rfl, oa0, ba0⟩
          have ka0 := K8.out.trans (ba0.mono K8.out.size)
          have ob0 := O8.out.below ba0
          obtain ⟨aa0, ca0, rfl, hra0, _, _⟩ := oa0.reads
          rw [low_length] at hra0 ⊢
          clear ba0 oa0 d3
          go_wp2_with (at_builtin; refine wpList_append_bytes rfl _ _ rfl W.heap.size _ (low y0 8 ++ low y1 8 ++ [flagB y2, n]) rfl ob0 _ _ _ rfl (low y3' 2) hra0 (by simp [low_length]) ka0.size ?_; intro v9 w9 o9 g9; have k9 := ka0.grown g9 ka0.size (fun j hj => ob0.lt j hj); obtain ⟨_, _, _, _, d4, _⟩ := BOX.out _ k9; have K9 := Lib.hid k9; have O9 := Lib.hid o9; clear g9 k9 o9 hra0 ob0 ka0)
          go_wp2_with fail
          refine (low_any y4 4 w9 (by decide) (by omega)).mono ?_
          rintro e x1 ⟨va1, rfl, oa1, ba1⟩
          have ka1 := K9.out.trans (ba1.mono K9.out.size)
          have ob1 := O9.out.below ba1
          obtain ⟨aa1, ca1, rfl, hra1, _, _⟩ := oa1.reads
          rw [low_length] at hra1 ⊢
          clear ba1 oa1 d4
          go_wp2_with (at_builtin; refine wpList_append_bytes rfl _ _ rfl W.heap.size _ (low y0 8 ++ low y1 8 ++ [flagB y2, n] ++ low y3' 2) rfl ob1 _ _ _ rfl (low y4 4) hra1 (by simp [low_length]) ka1.size ?_; intro v10 w10 o10 g10; have k10 := ka1.grown g10 ka1.size (fun j hj => ob1.lt j hj); have K10 := Lib.hid k10; have O10 : Hid (Owns W.heap.size w10 v10 (headB y0 y1 y2 n y3' y4)) := Lib.hid o10; clear g10 k10 o10 hra1 ob1 ka1)
          have hHl := headB_length y0 y1 y2 n y3' y4
          obtain ⟨H, hH⟩ : ∃ H, headB y0 y1 y2 n y3' y4 = H := ⟨_, rfl⟩
          rw [hH] at O10 HFG hHl
          clear hH hk3 hk4 HRP OA KA
          have LEN := Lib.hid (fun k => lowsU_flat_len (L := L.take k) fun x hx => HL.out x (List.mem_of_mem_take hx))
          go_wp2_with fail
          go_loopw [4, 6] (fun v i wr => ∃ k : Nat, k ≤ n ∧ i = .int .i64 k ∧ Hid (∀ x ∈ L.take k, goodE x) ∧ Hid (Owns W.heap.size wr v (H ++ lowsU (L.take k).flatten)) ∧ Hid (Below W.heap.size W wr)) (fun _ i _ => n - (intOf i).toNat)
          case atStart => exact ⟨0, Nat.zero_le _, rfl, Lib.hid (by simp), by show Owns _ _ _ _; simpa [lowsU] using O10.out, K10.out⟩
          case round =>
            obtain ⟨k, hk, rfl, HA, HO, HBB⟩ := hrel
            have e5 := (BOX.out _ HBB.out).2.2.2.2.2
            by_cases hlt : k < n
            · obtain ⟨x, hx⟩ : ∃ x, L[k]? = some x := ⟨_, List.getElem?_eq_getElem (by rw [HN.out]; exact hlt)⟩
              obtain ⟨z0, z1, z2, z3, rfl, i0, i1, i2, i3⟩ := HL.out x (List.mem_of_getElem? hx)
              obtain ⟨b, off, rfl, hb, hc⟩ := (HRW.out.below HBB.out).row (show (L.map rowV)[k]? = some (rowV (fldEntry z0 z1 z2 z3)) by rw [List.getElem?_map, hx]; rfl)
              have hcell : ∀ (i : Nat) (u : Value), (rowV (fldEntry z0 z1 z2 z3))[i]? = some u → wr.cell? ⟨b, off + k * 4 + i, none⟩ = some u := fun i u hi => by
                have h1 := hc i u hi
                rwa [← Nat.add_assoc] at h1
              have c_0 : wr.cell? ⟨b, off + k * 4, none⟩ = some (.int .i64 z0) := hcell 0 _ rfl
              have c_1 : wr.cell? ⟨b, off + k * 4 + 1, none⟩ = some (.int .u32 z1) := hcell 1 _ rfl
              have c_2 : wr.cell? ⟨b, off + k * 4 + 2, none⟩ = some (.int .u32 z2) := hcell 2 _ rfl
              have c_3 : wr.cell? ⟨b, off + k * 4 + 3, none⟩ = some (.int .i64 z3) := hcell 3 _ rfl
              have hx0 : (0 : Int) ≤ (k : Int) := by omega
              have hx1 : (k : Int) < (n : Int) := by omega
              have HX := Lib.hid hx
              have hbox := heap_alloc_new wr (.cells #[.int .i64 z0, .int .u32 z1, .int .u32 z2, .int .i64 z3] 162)
              have hV := HBB.out.alloc HBB.out.size (.cells #[.int .i64 z0, .int .u32 z1, .int .u32 z2, .int .i64 z3] 162)
              have OV := Lib.hid (HO.out.alloc (.cells #[.int .i64 z0, .int .u32 z1, .int .u32 z2, .int .i64 z3] 162))
              have BXE := Lib.hid hbox
              have KV := Lib.hid hV
              clear hc hcell hx hb hbox hV
              by_cases hbad : z0 < 1 ∨ 6 < z0 ∨ 65535 < z1 ∨ z3 < 0 ∨ 65535 < z3
              · have HF := Lib.hid (FE.out k _ HX.out (goodE_no i1 i2 i3 hbad))
                obtain ⟨nf, hd9, hb9⟩ := BAD.out _ KV.out
                by_cases q0 : z0 < 1
                · have hd0 : decide (z0 < 1) = true := decide_eq_true q0
                  clear hbad q0
                  go_wp2_with (refine wpList_store_full rfl _ _ rfl (w.heap.size + 1) noughts rfl rfl rfl _ _ nf rfl ?_)
                  refine bodyPost_ret (results_full_tmp rfl _ _ (w.heap.size + 1) noughts _ _ rfl hd9 rfl) rfl ?_
                  exact ⟨by rw [HF.out]; rfl, hb9⟩
                · have hd0 : decide (z0 < 1) = false := decide_eq_false q0
                  by_cases q1 : 6 < z0
                  · have hd1 : decide (6 < z0) = true := decide_eq_true q1
                    clear hbad q0 q1
                    go_wp2_with (refine wpList_store_full rfl _ _ rfl (w.heap.size + 1) noughts rfl rfl rfl _ _ nf rfl ?_)
                    refine bodyPost_ret (results_full_tmp rfl _ _ (w.heap.size + 1) noughts _ _ rfl hd9 rfl) rfl ?_
                    exact ⟨by rw [HF.out]; rfl, hb9⟩
                  · have hd1 : decide (6 < z0) = false := decide_eq_false q1
                    by_cases q2 : 65535 < z1
                    · have hd2 : decide (65535 < z1) = true := decide_eq_true q2
                      clear hbad q0 q1 q2
                      go_wp2_with (refine wpList_store_full rfl _ _ rfl (w.heap.size + 1) noughts rfl rfl rfl _ _ nf rfl ?_)
                      refine bodyPost_ret (results_full_tmp rfl _ _ (w.heap.size + 1) noughts _ _ rfl hd9 rfl) rfl ?_
                      exact ⟨by rw [HF.out]; rfl, hb9⟩
                    · have hd2 : decide (65535 < z1) = false := decide_eq_false q2
                      by_cases q3 : z3 < 0
                      · have hd3 : decide (z3 < 0) = true := decide_eq_true q3
                        clear hbad q0 q1 q2 q3
                        go_wp2_with (refine wpList_store_full rfl _ _ rfl (w.heap.size + 1) noughts rfl rfl rfl _ _ nf rfl ?_)
                        refine bodyPost_ret (results_full_tmp rfl _ _ (w.heap.size + 1) noughts _ _ rfl hd9 rfl) rfl ?_
                        exact ⟨by rw [HF.out]; rfl, hb9⟩
                      · have hd3 : decide (z3 < 0) = false := decide_eq_false q3
                        have hd4 : decide (65535 < z3) = true := decide_eq_true (by omega)
                        clear hbad q0 q1 q2 q3
                        go_wp2_with (refine wpList_store_full rfl _ _ rfl (w.heap.size + 1) noughts rfl rfl rfl _ _ nf rfl ?_)
                        refine bodyPost_ret (results_full_tmp rfl _ _ (w.heap.size + 1) noughts _ _ rfl hd9 rfl) rfl ?_
                        exact ⟨by rw [HF.out]; rfl, hb9⟩
              · have hd0 : decide (z0 < 1) = false := decide_eq_false (by omega)
                have hd1 : decide (6 < z0) = false := decide_eq_false (by omega)
                have hd2 : decide (65535 < z1) = false := decide_eq_false (by omega)
                have hd3 : decide (z3 < 0) = false := decide_eq_false (by omega)
                have hd4 : decide (65535 < z3) = false := decide_eq_false (by omega)
                have HG := Lib.hid (goodE_is (z0 := z0) (z1 := z1) (z2 := z2) (z3 := z3) (by omega) (by omega) i2 (by omega))
                have G0 := Lib.hid (show 0 ≤ z0 ∧ z0 ≤ 6 ∧ 0 ≤ z1 ∧ z1 ≤ 65535 ∧ 0 ≤ z3 ∧ z3 ≤ 65535 by omega)
                clear hbad i0 i1 i3
                go_upto_region 16 with (fail)
                clear hd0 hd1 hd2 hd3 hd4 c_0 c_1 c_2 c_3 e5
                obtain ⟨p0, p0', p1, p1', p3, p3'⟩ := G0.out
                obtain ⟨t0, rfl⟩ := Int.eq_ofNat_of_zero_le p0
                obtain ⟨t1, rfl⟩ := Int.eq_ofNat_of_zero_le p1
                obtain ⟨t2, rfl⟩ := Int.eq_ofNat_of_zero_le i2.1
                obtain ⟨t3, rfl⟩ := Int.eq_ofNat_of_zero_le p3
                have j2 : t2 < 4294967296 := by omega
                have HLE : Hid (lowsU (fldEntry t0 t1 t2 t3) = entB t0 t1 t2 t3) := Lib.hid (lowsU_entry (by omega) (by omega) j2 (by omega))
                have hlk : (H ++ lowsU (L.take k).flatten).length ≤ 200 := by rw [List.length_append, hHl, LEN.out k, List.length_take]; omega
                obtain ⟨P, hP⟩ : ∃ P, H ++ lowsU (L.take k).flatten = P := ⟨_, rfl⟩
                rw [hP] at OV hlk
                have HP := Lib.hid hP
                have hz0 : IntKind.u8.wrap (t0 : Int) = t0 := by simp [IntKind.wrap, IntKind.signed, IntKind.bits]; omega
                have hk1 : (t1 : Int) % 18446744073709551616 = t1 := by omega
                have hk2 : (t2 : Int) % 18446744073709551616 = t2 := by omega
                have hk3 : (t3 : Int) % 18446744073709551616 = t3 := by omega
                have hg0 : wr.heap.size < (wr.alloc (.cells #[.int .i64 (t0 : Int), .int .u32 (t1 : Int), .int .u32 (t2 : Int), .int .i64 (t3 : Int)] 162)).heap.size := by simp
                have bx := BXE.out
                obtain ⟨V, hVe⟩ : ∃ V, wr.alloc (.cells #[.int .i64 (t0 : Int), .int .u32 (t1 : Int), .int .u32 (t2 : Int), .int .i64 (t3 : Int)] 162) = V := ⟨_, rfl⟩
                rw [hVe] at OV KV hg0 bx ⊢
                have f0 : V.cell? ⟨wr.heap.size, 0, none⟩ = some (.int .i64 (t0 : Int)) := cell_of_row bx 0
                have R1 := Lib.hid (reads_one V t0 (by omega))
                have O1 := Lib.hid (OV.out.alloc (.cells #[byteV t0] 5))
                have K1 := Lib.hid (KV.out.alloc KV.out.size (.cells #[byteV t0] 5))
                have bx1 := ((below_box V (.cells #[byteV t0] 5)).block _ hg0).trans bx
                have BX1 := Lib.hid bx1
                have HVS := Lib.hid hg0
                clear hP bx bx1 hVe hg0 BXE p0 p0' p1 p1' p3 p3' i2
                go_wp2_with (at_builtin; refine wpList_append_bytes rfl _ _ rfl W.heap.size _ P rfl O1.out _ _ _ rfl [t0] R1.out (by simp; omega) K1.out.size ?_; intro v2 u2 o2 g2; have k2 := K1.out.grown g2 K1.out.size (fun j hj => O1.out.lt j hj); have bx2 := box_grown17 O1.out g2 BX1.out (by decide); have f1 := cell_of_row bx2 1; have K2 := Lib.hid k2; have O2 := Lib.hid o2; have BX2 := Lib.hid bx2; clear g2 k2 o2 bx2)
                clear f0 hz0 R1 O1 K1 BX1
                go_wp2_with fail
                refine (low_any t1 2 u2 (by decide) (by omega)).mono ?_
                rintro e x2 ⟨va2, rfl, oa2, ba2⟩
                have ka2 := K2.out.trans (ba2.mono K2.out.size)
                have ob2 := O2.out.below ba2
                have bx3 := (ba2.block wr.heap.size (Array.getElem?_eq_some_iff.1 BX2.out).1).trans BX2.out
                obtain ⟨aa2, ca2, rfl, hra2, _, _⟩ := oa2.reads
                rw [low_length] at hra2 ⊢
                clear ba2 oa2 f1 hk1
                go_wp2_with (at_builtin; refine wpList_append_bytes rfl _ _ rfl W.heap.size _ (P ++ [t0]) rfl ob2 _ _ _ rfl (low t1 2) hra2 (by simp; omega) ka2.size ?_; intro v3 u3 o3 g3; have k3 := ka2.grown g3 ka2.size (fun j hj => ob2.lt j hj); have bx4 := box_grown17 ob2 g3 bx3 (by decide); have f2 := cell_of_row bx4 2; have K3 := Lib.hid k3; have O3 := Lib.hid o3; have BX3 := Lib.hid bx4; clear g3 k3 o3 bx4 bx3 hra2 ob2 ka2)
                go_wp2_with fail
                refine (low_any t2 4 u3 (by decide) (by omega)).mono ?_
                rintro e x3 ⟨va3, rfl, oa3, ba3⟩
                have ka3 := K3.out.trans (ba3.mono K3.out.size)
                have ob3 := O3.out.below ba3
                have bx5 := (ba3.block wr.heap.size (Array.getElem?_eq_some_iff.1 BX3.out).1).trans BX3.out
                obtain ⟨aa3, ca3, rfl, hra3, _, _⟩ := oa3.reads
                rw [low_length] at hra3 ⊢
                clear ba3 oa3 f2 hk2
                go_wp2_with (at_builtin; refine wpList_append_bytes rfl _ _ rfl W.heap.size _ (P ++ [t0] ++ low t1 2) rfl ob3 _ _ _ rfl (low t2 4) hra3 (by simp [low_length]; omega) ka3.size ?_; intro v4 u4 o4 g4; have k4 := ka3.grown g4 ka3.size (fun j hj => ob3.lt j hj); have bx6 := box_grown17 ob3 g4 bx5 (by decide); have f3 := cell_of_row bx6 3; have K4 := Lib.hid k4; have O4 := Lib.hid o4; clear g4 k4 o4 bx6 bx5 hra3 ob3 ka3)
                go_wp2_with fail
                refine (low_any t3 2 u4 (by decide) (by omega)).mono ?_
                rintro e x4 ⟨va4, rfl, oa4, ba4⟩
                have ka4 := K4.out.trans (ba4.mono K4.out.size)
                have ob4 := O4.out.below ba4
                obtain ⟨aa4, ca4, rfl, hra4, _, _⟩ := oa4.reads
                rw [low_length] at hra4 ⊢
                clear ba4 oa4 f3 hk3
                go_wp2_with (at_builtin; refine wpList_append_bytes rfl _ _ rfl W.heap.size _ (P ++ [t0] ++ low t1 2 ++ low t2 4) rfl ob4 _ _ _ rfl (low t3 2) hra4 (by simp [low_length]; omega) ka4.size ?_; intro v5 u5 o5 g5; have k5 := ka4.grown g5 ka4.size (fun j hj => ob4.lt j hj); have K5 := Lib.hid k5; have O5 := Lib.hid o5; clear g5 k5 o5 hra4 ob4 ka4)
                go_roundw
                case rel =>
                  refine ⟨k + 1, by omega, by go_num, Lib.hid fun y hy => ?_, ?_, K5.out⟩
                  · rw [List.take_add_one, HX.out] at hy
                    rcases List.mem_append.1 hy with hy | hy
                    · exact HA.out y hy
                    · obtain rfl : y = fldEntry t0 t1 t2 t3 := by simpa using hy
                      exact HG.out
                  · show Owns _ _ _ _
                    have e : H ++ lowsU (L.take (k + 1)).flatten = P ++ [t0] ++ low t1 2 ++ low t2 4 ++ low t3 2 := by
                      rw [← HP.out, List.take_add_one, HX.out, List.flatten_append, lowsU_append]
                      simp only [Option.toList_some, List.flatten_cons, List.flatten_nil, List.append_nil]
                      rw [HLE.out]
                      unfold entB
                      simp only [List.append_assoc]
                    rw [e]
                    exact O5.out
                case measure => simp [intOf]; omega
            · have hkn : k = n := by omega
              subst hkn
              have htl : L.take k = L := List.take_of_length_le (by rw [HN.out]; exact Nat.le_refl _)
              have hall := HA.out
              have ho := HO.out
              have hlen := LEN.out k
              rw [htl] at hall ho hlen
              rw [HN.out] at hlen
              have HF := Lib.hid (HFG.out hall)
              have hlen2 : (H ++ lowsU L.flatten).length = 24 + k * 9 := by rw [List.length_append, hHl, hlen]
              obtain ⟨P, hP⟩ : ∃ P, H ++ lowsU L.flatten = P := ⟨_, rfl⟩
              rw [hP] at ho HF hlen2
              obtain ⟨ad, cd, rfl, hrd, _, _⟩ := ho.reads
              have hsl := sealL_length (kind := 3) (body := P) (by omega)
              have HMK := Lib.hid (rmake_ok 3 P ad P.length cd wr hrd (by omega) (by decide) (by decide))
              obtain ⟨pl, hpl⟩ : ∃ l, P.length = l := ⟨_, rfl⟩
              rw [hpl] at HMK ⊢
              obtain ⟨sl, hsle⟩ : ∃ x, sealL 3 P = x := ⟨_, rfl⟩
              rw [hsle] at hsl HF HMK
              clear hrd ho hall htl hlen hP hpl hsle hlen2
              go_wp2_with fail
              refine HMK.out.mono ?_
              rintro e wf ⟨rfl, bf⟩
              obtain ⟨nf, hd9, hb9⟩ := BAD.out wf (HBB.out.trans (bf.mono HBB.out.size))
              have hd8 := setRow_heap wf (w.heap.size + 1) _ (cells sl) _ _ nf
              have hb8 := below_setRow (g := w.heap.size + 1) (HB.out.trans ((HBB.out.trans (bf.mono HBB.out.size)).mono HB.out.size)) (by omega) (cells sl)
              clear hd9 hb9 bf
              go_wp2_with (refine wpList_store_full rfl _ _ rfl (w.heap.size + 1) sl rfl rfl hsl _ _ nf rfl ?_)
              refine bodyPost_ret (results_full_tmp rfl _ _ (w.heap.size + 1) sl _ _ rfl hd8 hsl) rfl ?_
              exact ⟨by rw [HF.out]; rfl, hb8⟩
end Go.Proofs.Ytplkglepbedhoaa
