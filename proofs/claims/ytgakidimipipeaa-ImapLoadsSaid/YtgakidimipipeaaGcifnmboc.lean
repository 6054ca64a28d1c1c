/- The law ImapLoads, walked. -/
import Derived.Test.YtgakidimipipeaaGcgjfijkm
import Derived.Test.YtgakidimipipeaaGleokpnge
import Derived.Test.YtgakidimipipeaaGbeglaiab
import Derived.Deep.DeepCutAuto
namespace Go.Proofs.Ytgakidimipipeaa
open Go.RowKit Go.Sort
set_option linter.unusedVariables false
set_option linter.unusedSimpArgs false
set_option maxRecDepth 100000

/-- What a slot that came in may have. -/
def SlotFit (s : SlotD) : Prop := I64 s.place ∧ (0 ≤ s.version ∧ s.version < 4294967296) ∧ I64 s.links ∧ I64 s.kind
theorem slots_of : ∀ (L : List (List FldD)), (∀ x ∈ L, IsFSlot x) → ∃ sl : List SlotD, L = sl.map fldS ∧ ∀ s ∈ sl, SlotFit s
  | [], _ => ⟨[], rfl, fun s hs => by cases hs⟩
  | x :: L, h => by
    obtain ⟨sl, e, hs⟩ := slots_of L (fun y hy => h y (List.mem_cons_of_mem _ hy))
    obtain ⟨z0, z1, z2, z3, rfl, h0, h1, h2, h3⟩ := h x (List.mem_cons_self ..)
    refine ⟨⟨z0, z1, z2, z3⟩ :: sl, by rw [e]; rfl, ?_⟩
    intro s hs'
    rcases List.mem_cons.1 hs' with rfl | hs'
    · exact ⟨h0, h1, h2, h3⟩
    · exact hs s hs'
theorem slots_rowsV (sl : List SlotD) : (sl.map fldS).map rowV = slotsV sl := by
  unfold slotsV
  rw [List.map_map]
  rfl
theorem fit_ok {sl : List SlotD} (h : ∀ s ∈ sl, SlotFit s) (ha : sl.all mayS = true) : ∀ s ∈ sl, SlotOk s := fun s hs => mayS_ok (List.all_eq_true.1 ha s hs) (h s hs).2.1
theorem slotsV_take (sl : List SlotD) (k : Nat) : slotsV (sl.take k) = (slotsV sl).take k := by unfold slotsV; rw [List.map_take]
def okM (b0 : Bool) (sl : List SlotD) (k : Nat) : Bool := b0 && (sl.take k).all mayS
theorem okM_succ {b0 : Bool} {sl : List SlotD} {k : Nat} {s : SlotD} (h : sl[k]? = some s) : okM b0 sl (k + 1) = (okM b0 sl k && mayS s) := by
  unfold okM
  rw [List.take_add_one, h, List.all_append]
  simp [Bool.and_assoc]
set_option maxHeartbeats 3200000 in
theorem imapLoads_walk (sl0 : List SlotD) (hfit : ∀ s ∈ sl0, SlotFit s) (a : Option Addr) (cap : Nat) (z : Int) (w : World) (hr : ReadsR w a 4 (slotsV sl0)) (hcap : sl0.length ≤ cap)  :
    Calls Try.prog 3 #[.slice a sl0.length cap, .int .i64 z] w fun e w' => e = .returned (.bool true) ∧ Below w.heap.size w w' := by
  have HR := Lib.hid hr
  have HF := Lib.hid hfit
  obtain ⟨L9, hL9⟩ : ∃ n, sl0.length = n := ⟨_, rfl⟩
  have HN9 := Lib.hid hL9
  rw [hL9] at hcap ⊢
  clear hL9 hr hfit
  go_enter Try.func3, Try.ntmps3
  go_wp2_with fail
  refine (awake10_true w).mono ?_
  rintro e w1 ⟨rfl, b1⟩
  have B1 := Lib.hid b1
  clear b1
  go_upto_if 23 with (fail)
  go_cut [0] (fun s wx => w1 = wx ∧ ∃ n, s = .slice a n cap ∧ Hid ((sl0.take 205).length = n))
  case first =>
    by_cases hlt : 205 < L9
    · have hx : (205 : Int) < (L9 : Int) := by omega
      have hy : (205 : Int) ≤ (cap : Int) := by omega
      go_wp2
      go_meet
      exact ⟨rfl, 205, rfl, by show _ = _; rw [List.length_take, HN9.out]; omega⟩
    · have hx : ¬ (205 : Int) < (L9 : Int) := by omega
      go_wp2
      go_meet
      exact ⟨rfl, L9, rfl, by show _ = _; rw [List.length_take, HN9.out]; omega⟩
  case rest =>
    obtain ⟨rfl, n, rfl, HN⟩ := hcut
    have HR2 : Hid (ReadsR w a 4 (slotsV (sl0.take 205))) := Lib.hid (by rw [slotsV_take]; exact HR.out.takeR 205)
    have HF2 : Hid (∀ s ∈ sl0.take 205, SlotFit s) := Lib.hid (fun s hs => HF.out s (List.mem_of_mem_take hs))
    have hn205 : n ≤ 205 := by rw [← HN.out]; exact List.length_take_le _ _
    have hncap : n ≤ cap := by rw [← HN.out, List.length_take, HN9.out]; omega
    generalize sl0.take 205 = sl at *
    clear HR HF HN9 hcap
    have HR3 := Lib.hid (HR2.out.below B1.out)
    have HNC := Lib.hid hncap
    have HN205 := Lib.hid hn205
    clear hncap hn205
    go_upto_region 6 with (fail)
    go_cut [6] (fun ob wx => w1 = wx ∧ ob = .bool (decide (0 < n) && decide (n ≤ 200)))
    case first =>
      by_cases h0 : 0 < n
      · have hx : (0 : Int) < (n : Int) := by omega
        by_cases h2 : n ≤ 200
        · have hy : (n : Int) ≤ 200 := by omega
          go_wp2
          go_meet
          exact ⟨rfl, by rw [decide_eq_true h0, decide_eq_true h2]; rfl⟩
        · have hy : ¬ (n : Int) ≤ 200 := by omega
          go_wp2
          go_meet
          exact ⟨rfl, by rw [decide_eq_true h0, decide_eq_false h2]; rfl⟩
      · have hx : ¬ (0 : Int) < (n : Int) := by omega
        go_wp2
        go_meet
        exact ⟨rfl, by rw [decide_eq_false h0]; rfl⟩
    case rest =>
      obtain ⟨rfl, rfl⟩ := hcut
      obtain ⟨b0, hb0⟩ : ∃ b, (decide (0 < n) && decide (n ≤ 200)) = b := ⟨_, rfl⟩
      rw [hb0]
      have HB0 := Lib.hid hb0
      clear hb0
      go_wp2_with fail
      go_loopw [5, 6, 36] (fun v ob i wr => ∃ k : Nat, k ≤ n ∧ i = .int .i64 k ∧ ob = .bool (okM b0 sl k) ∧ Hid (OwnsR' w1.heap.size wr 28 4 v (slotsV (sl.take k))) ∧ Hid (Below w1.heap.size w1 wr)) (fun _ _ i _ => n - (intOf i).toNat)
      case atStart => exact ⟨0, Nat.zero_le _, rfl, by unfold okM; simp, Lib.hid (OwnsR'.nil _ _ _ _), Lib.hid (Below.refl _ _)⟩
      case round =>
        obtain ⟨k, hk, rfl, rfl, HO, HBL⟩ := hrel
        rename_i wr _
        by_cases hlt : k < n
        · obtain ⟨s, hs⟩ : ∃ s, sl[k]? = some s := ⟨_, List.getElem?_eq_getElem (by rw [HN.out]; exact hlt)⟩
          have hsf := HF2.out s (List.mem_of_getElem? hs)
          obtain ⟨b, off, rfl, hb, hc⟩ := (HR3.out.below HBL.out).row (slotsV_get hs)
          have c_0 : wr.cell? ⟨b, off + k * 4, none⟩ = some (.int .i64 s.place) := hc 0 _ rfl
          have c_1 : wr.cell? ⟨b, off + k * 4 + 1, none⟩ = some (.int .u32 s.version) := by have := hc 1 _ rfl; rwa [← Nat.add_assoc] at this
          have c_2 : wr.cell? ⟨b, off + k * 4 + 2, none⟩ = some (.int .i64 s.links) := by have := hc 2 _ rfl; rwa [← Nat.add_assoc] at this
          have c_3 : wr.cell? ⟨b, off + k * 4 + 3, none⟩ = some (.int .i64 s.kind) := by have := hc 3 _ rfl; rwa [← Nat.add_assoc] at this
          have hx0 : (0 : Int) ≤ (k : Int) := by omega
          have hx1 : (k : Int) < (n : Int) := by omega
          have hk205 : k ≤ 205 := by have := HN205.out; omega
          have HTK : Hid (slotsV (sl.take (k + 1)) = slotsV (sl.take k) ++ [slotV s]) := by
            show _ = _
            unfold slotsV
            rw [List.take_add_one, hs, List.map_append]
            rfl
          have HOK := Lib.hid (okM_succ (b0 := b0) hs)
          have HLL : Hid ((slotsV (sl.take k)).length ≤ 205) := Lib.hid (by unfold slotsV; rw [List.length_map, List.length_take]; have := HN205.out; omega)
          have HLT := Lib.hid hlt
          obtain ⟨x0, x1, x2, x3⟩ := box4_cells wr s 27
          have n2 := heap_alloc_new wr (.cells #[.int .i64 s.place, .int .u32 s.version, .int .i64 s.links, .int .i64 s.kind] 27)
          have hB2 := HBL.out.alloc HBL.out.size (.cells #[.int .i64 s.place, .int .u32 s.version, .int .i64 s.links, .int .i64 s.kind] 27)
          have hO2 := HO.out.alloc (.cells #[.int .i64 s.place, .int .u32 s.version, .int .i64 s.links, .int .i64 s.kind] 27)
          have s2 : (wr.alloc (.cells #[.int .i64 s.place, .int .u32 s.version, .int .i64 s.links, .int .i64 s.kind] 27)).heap.size = wr.heap.size + 1 := by simp
          have HB2 := Lib.hid hB2
          have HO2 := Lib.hid hO2
          have HS2 := Lib.hid s2
          have HN2 := Lib.hid n2
          obtain ⟨bk, hbk⟩ : ∃ bk, okM b0 sl k = bk := ⟨_, rfl⟩
          rw [hbk] at HOK ⊢
          clear hc hs hb hB2 hO2 s2 n2 hsf hlt hk hbk
          go_wp2_with fail
          refine (slot_own s _).mono ?_
          rintro e w5 ⟨rfl, b5⟩
          have n5 : w5.heap[wr.heap.size]? = some (.cells #[.int .i64 s.place, .int .u32 s.version, .int .i64 s.links, .int .i64 s.kind] 27 (0, 0)) := (b5.block wr.heap.size (by rw [HS2.out]; omega)).trans HN2.out
          have hB5 := HB2.out.trans (b5.mono HB2.out.size)
          have hO5 := HO2.out.below b5
          have hsz5 : wr.heap.size < w5.heap.size := by have := b5.size; rw [HS2.out] at this; omega
          have hB6 := hB5.alloc hB5.size (.cells #[.int .i64 s.place, .int .u32 s.version, .int .i64 s.links, .int .i64 s.kind] 28)
          have hO6 := hO5.alloc (.cells #[.int .i64 s.place, .int .u32 s.version, .int .i64 s.links, .int .i64 s.kind] 28)
          have n6 : (w5.alloc (.cells #[.int .i64 s.place, .int .u32 s.version, .int .i64 s.links, .int .i64 s.kind] 28)).heap[wr.heap.size]? = some (.cells #[.int .i64 s.place, .int .u32 s.version, .int .i64 s.links, .int .i64 s.kind] 27 (0, 0)) := (Below.heap_alloc _ _ _ hsz5).trans n5
          have hrow : ∀ j u, (slotV s)[j]? = some u → (w5.alloc (.cells #[.int .i64 s.place, .int .u32 s.version, .int .i64 s.links, .int .i64 s.kind] 28)).cell? ⟨w5.heap.size, j, none⟩ = some u := fun j u hu =>
            (cell_of_row (heap_alloc_new w5 (.cells #[.int .i64 s.place, .int .u32 s.version, .int .i64 s.links, .int .i64 s.kind] 28)) j).trans ((List.getElem?_toArray (xs := slotV s)).trans hu)
          have hown : some wr.heap.size ≠ u5.ownBlock := by
            intro e
            have := (HO.out.lt wr.heap.size e.symm).2
            omega
          have hszA : wr.heap.size < (w5.alloc (.cells #[.int .i64 s.place, .int .u32 s.version, .int .i64 s.links, .int .i64 s.kind] 28)).heap.size := by simp; omega
          have HROW := Lib.hid hrow
          have HO6 := Lib.hid hO6
          have HB6 := Lib.hid hB6
          have HN6 := Lib.hid n6
          have HOWN := Lib.hid hown
          have HSZA := Lib.hid hszA
          have HLE : Hid (w1.heap.size ≤ (w5.alloc (.cells #[.int .i64 s.place, .int .u32 s.version, .int .i64 s.links, .int .i64 s.kind] 28)).heap.size) := Lib.hid hB6.size
          clear n5 hB5 hO5 hsz5 hB6 hO6 n6 hrow hown hszA b5 x0 x1 x2 x3 c_0 c_1 c_2 c_3
          cases bk
          all_goals
            go_wp2_with (at_builtin; refine wpList_append_row_at rfl _ _ _ rfl w1.heap.size 28 _ 4 32 Try.underlying24 infoSlot rfl (by decide) u5 _ rfl HO6.out w5.heap.size 1 (slotV s) (by go_simp) rfl HROW.out (fun u hu => by simp only [slotV, List.mem_cons, List.not_mem_nil, or_false] at hu; rcases hu with rfl | rfl | rfl | rfl <;> rfl) (by have := HLL.out; omega) (by have := HLL.out; unfold maxLen; omega) HLE.out ?_; intro v4 w4 o4 g4 _; have B4 := Lib.hid (HO6.out.grown HB6.out HLE.out g4); have O4 := Lib.hid o4; have n7 := (g4.block wr.heap.size HSZA.out HOWN.out).trans HN6.out; have y0 : w4.cell? ⟨wr.heap.size, 0, none⟩ = some (.int .i64 s.place) := cell_of_row n7 0; have y1 : w4.cell? ⟨wr.heap.size, 1, none⟩ = some (.int .u32 s.version) := cell_of_row n7 1; have y2 : w4.cell? ⟨wr.heap.size, 2, none⟩ = some (.int .i64 s.links) := cell_of_row n7 2; have y3 : w4.cell? ⟨wr.heap.size, 3, none⟩ = some (.int .i64 s.kind) := cell_of_row n7 3; clear o4 g4 n7)
          · have h1 := HLT.out
            have h2 := HN205.out
            go_roundw
            case rel =>
              refine ⟨k + 1, HLT.out, by go_num, by rw [HOK.out]; rfl, ?_, B4⟩
              show OwnsR' _ _ _ _ _ _
              rw [HTK.out]
              exact O4.out
            case measure => simp [intOf]; omega
          · refine (rmay_is4 s w4).mono ?_
            rintro e w6 ⟨rfl, b6⟩
            have B6 := Lib.hid (B4.out.trans (b6.mono B4.out.size))
            have O6 := Lib.hid (O4.out.below b6)
            clear b6 y0 y1 y2 y3
            go_wp2
            have h1 := HLT.out
            have h2 := HN205.out
            go_roundw
            case rel =>
              refine ⟨k + 1, HLT.out, by go_num, by rw [HOK.out, Bool.true_and], ?_, B6⟩
              show OwnsR' _ _ _ _ _ _
              rw [HTK.out]
              exact O6.out
            case measure => simp [intOf]; omega
        · obtain rfl : k = n := by omega
          have htl : sl.take k = sl := List.take_of_length_le (by rw [HN.out]; exact Nat.le_refl _)
          have hok : okM b0 sl k = (b0 && sl.all mayS) := by unfold okM; rw [htl]
          rw [htl] at HO
          obtain ⟨a4, c4, rfl, hr4, -, -⟩ := HO.out.reads
          have hsl : (slotsV sl).length = k := by unfold slotsV; rw [List.length_map, HN.out]
          rw [hok, hsl]
          obtain ⟨ok, hoe⟩ : ∃ ok, (b0 && sl.all mayS) = ok := ⟨_, rfl⟩
          rw [hoe]
          have hge : ¬ (k : Int) < (k : Int) := by omega
          have HB : Hid (Below w.heap.size w wr) := Lib.hid (below_next B1.out HBL.out)
          have HBK := HBL
          have HOE := Lib.hid hoe
          have HR4 := Lib.hid hr4
          clear htl hok hsl hoe hr4 HO HBL hlt hk
          cases ok
          · have hld : Calls Try.prog 11 #[.slice a4 k c4] wr fun e w' => e = .returned (.tuple #[.pointer none, .int .i64 1]) ∧ Below wr.heap.size wr w' := by
              by_cases hb : b0 = true
              · have h3 := HB0.out
                rw [hb, Bool.and_eq_true, decide_eq_true_eq, decide_eq_true_eq] at h3
                have h4 : sl.all mayS = false := by have := HOE.out; rw [hb, Bool.true_and] at this; exact this
                have := mload_is sl a4 c4 wr HR4.out (by rw [HN.out]; omega) (by rw [HN.out]; omega) (fun s hs => (HF2.out s hs).2.1)
                rw [HN.out] at this
                refine this.mono ?_
                rintro e w' ⟨hb', ⟨h5, _⟩ | ⟨_, h6⟩⟩
                · rw [h4] at h5; cases h5
                · exact ⟨h6, hb'⟩
              · have h3 := HB0.out
                have hb' : b0 = false := by simpa using hb
                rw [hb', Bool.and_eq_false_iff, decide_eq_false_iff_not, decide_eq_false_iff_not] at h3
                exact mload_len k a4 c4 wr (by omega) (by have := HN205.out; omega)
            go_wp2_with fail
            refine hld.mono ?_
            rintro e w5 ⟨rfl, b5⟩
            have B5 := Lib.hid (HB.out.trans (b5.mono HB.out.size))
            clear b5 hld
            go_wp2
            go_ret
            exact ⟨rfl, B5.out⟩
          · have hall : b0 = true ∧ sl.all mayS = true := by have := HOE.out; rwa [Bool.and_eq_true] at this
            have hok := fit_ok HF2.out hall.2
            have hk0 : 0 < k ∧ k ≤ 200 := by
              have h3 := HB0.out
              rw [hall.1, Bool.and_eq_true, decide_eq_true_eq, decide_eq_true_eq] at h3
              exact h3
            have hmo : MapOk sl := ⟨by rw [HN.out]; exact hk0.1, by rw [HN.out]; exact hk0.2, hok⟩
            obtain ⟨b, off, rfl⟩ : ∃ b off, a = some ⟨b, off, none⟩ := by
              rcases HR2.out.2 with h | ⟨b, off, e, _⟩
              · have h4 : (slotsV sl).length = 0 := by rw [h]; rfl
                unfold slotsV at h4
                rw [List.length_map, HN.out] at h4
                omega
              · exact ⟨b, off, e⟩
            have hld := mload_is sl a4 c4 wr HR4.out (by rw [HN.out]; omega) (by rw [HN.out]; omega) (fun s hs => (HF2.out s hs).2.1)
            rw [HN.out] at hld
            have HLD := Lib.hid hld
            have HMO := Lib.hid hmo
            have HK0 := Lib.hid hk0
            have HALL := Lib.hid hall
            clear hld hmo hok hall hk0
            go_wp2_with fail
            refine HLD.out.mono ?_
            rintro e w5 ⟨hb5, ⟨-, g, gs, rfl, hmp⟩ | ⟨hno, -⟩⟩
            · have B5 := Lib.hid (HB.out.trans (hb5.mono HB.out.size))
              have HMP := Lib.hid hmp
              have his := is10_true hmp (some ⟨b, off, none⟩) cap (HR2.out.below B5.out)
              rw [HN.out] at his
              have HIS := Lib.hid his
              clear hb5 hmp his HLD
              go_wp2_with fail
              refine HIS.out.mono ?_
              rintro e w6 ⟨rfl, b6⟩
              have B6 := Lib.hid (B5.out.trans (b6.mono B5.out.size))
              have HMP6 := Lib.hid (HMP.out.below b6)
              clear b6 HIS
              obtain ⟨T, hT⟩ : ∃ T, tens sl.length = T := ⟨_, rfl⟩
              have hT20 : T ≤ 20 := by rw [← hT, HN.out]; have := HK0.out; unfold tens; omega
              have hsc := msectors_is HMP6.out
              rw [hT] at hsc
              have HSC := Lib.hid hsc
              have HT := Lib.hid hT
              have HT20 := Lib.hid hT20
              clear hsc hT hT20
              go_wp2_with fail
              refine HSC.out.mono ?_
              rintro e w7 ⟨v7, rfl, hv7, b7⟩
              have hO7 : OwnsR' w6.heap.size w7 41 128 v7 (secsM sl (List.range T)) := ⟨secsM_rows (secM_len HMO.out.2.2) _, by rw [show (secsM sl (List.range T)).length = T by unfold secsM; rw [List.length_map, List.length_range]]; exact hv7⟩
              obtain ⟨a7, c7, rfl, hr7, -, -⟩ := hO7.reads
              rw [show (secsM sl (List.range T)).length = T by unfold secsM; rw [List.length_map, List.length_range]]
              have B7 := Lib.hid (B6.out.trans (b7.mono B6.out.size))
              have HR7 := Lib.hid hr7
              have hrs := rsectors_is sl HMO.out.2.2 (by rw [HN.out]; have := HK0.out; omega) b off cap w7 (HR2.out.below B7.out) (by rw [HN.out]; exact HNC.out)
              rw [HN.out, show tens k = T by rw [← HN.out]; exact HT.out] at hrs
              have HRS := Lib.hid hrs
              clear hv7 b7 hO7 hr7 hrs HSC
              go_wp2_with fail
              refine HRS.out.mono ?_
              rintro e w8 ⟨v8, rfl, hO8, b8⟩
              obtain ⟨a8, c8, rfl, hr8, -, -⟩ := hO8.reads
              rw [show (secsM sl (List.range T)).length = T by unfold secsM; rw [List.length_map, List.length_range]]
              have B8 := Lib.hid (B7.out.trans (b8.mono B7.out.size))
              have HR8 := Lib.hid hr8
              have HR78 := Lib.hid (HR7.out.below b8)
              clear b8 hO8 hr8 HRS
              go_wp2_with fail
              go_loopw [83] (fun i wx => ∃ j : Nat, j ≤ T ∧ i = .int .i64 j ∧ Hid (Below w8.heap.size w8 wx)) (fun i _ => T - (intOf i).toNat)
              case atStart => exact ⟨0, Nat.zero_le _, rfl, Lib.hid (Below.refl _ _)⟩
              case round =>
                obtain ⟨j, hj, rfl, HBX⟩ := hrel
                have hT20 := HT20.out
                by_cases hlt : j < T
                · have hji : (List.range T)[j]? = some j := by rw [List.getElem?_range hlt]
                  have hsl := secM_len HMO.out.2.2
                  obtain ⟨b7, o7, rfl, -, hc7⟩ := sec_row (HR78.out.below HBX.out) hsl hji
                  obtain ⟨b8, o8, rfl, -, hc8⟩ := sec_row (HR8.out.below HBX.out) hsl hji
                  have HC7 := Lib.hid (cells_regrownM hc7)
                  have HC8 := Lib.hid (cells_regrownM hc8)
                  have hx0 : (0 : Int) ≤ (j : Int) := by omega
                  have hx1 : (j : Int) < (T : Int) := by omega
                  have HLN := Lib.hid (hsl j)
                  obtain ⟨S, hS⟩ : ∃ S, secM sl j = S := ⟨_, rfl⟩
                  rw [hS] at HC7 HC8 HLN
                  have hneq := run_neq_sector S S HLN.out HLN.out
                  rw [decide_eq_true rfl, Bool.not_true] at hneq
                  have HLT := Lib.hid hlt
                  clear hc7 hc8 hS hji hsl hlt hj
                  go_wp2_with fail
                  refine wp_region_quiet_below (by kernel_rfl) (by kernel_rfl) ?_
                  repeat (first
                    | (go_big_quiet_want; (refine quietSecM 41 (.tmp 88) rfl b7 (o7 + j * 128) S rfl HLN.out row_sector size_sector HC7.out ?_); go_simp; go_big_quiet_on)
                    | (go_big_quiet_want; (refine quietSecM 40 (.tmp 92) rfl b8 (o8 + j * 128) S rfl HLN.out row_full size_full HC8.out ?_); go_simp; go_big_quiet_on)
                    | go_big_quiet_step (fail))
                  refine wpQuiet_nil (regrown_name fun w3 b3 => ?_)
                  have HB3 : Hid (Below w8.heap.size w8 w3) := HBX.out.trans (b3.mono HBX.out.size)
                  clear b3
                  go_wp2
                  have h1 := HLT.out
                  go_roundw
                  case rel => exact ⟨j + 1, by omega, by go_num, HB3⟩
                  case measure => simp [intOf]; omega
                · obtain rfl : j = T := by omega
                  have hge : ¬ (j : Int) < (j : Int) := by omega
                  have BX := Lib.hid (B8.out.trans (HBX.out.mono B8.out.size))
                  have HR9 := Lib.hid (HR78.out.below HBX.out)
                  have hrd := fun (y : Int) (h1 : 1 ≤ y) (h2 : y ≤ 200) (W : World) (hW : Below wr.heap.size wr W) => mread_is HMO.out y h1 h2 a7 c7 W (by rw [HT.out]; exact HR9.out.below hW)
                  rw [HT.out] at hrd
                  have HRD := Lib.hid hrd
                  have hk0 := HK0.out
                  have hsecond : ∀ (W : World), Below wr.heap.size wr W → Calls Try.prog 15 #[.int .i64 ((k : Int) - 1), .slice a7 j c7] W fun e w' => (∃ f : Int, (f = 1 ∨ f = 21) ∧ e = .returned (.tuple #[.pointer none, .int .i64 f])) ∧ Below W.heap.size W w' := fun W hW => by
                    by_cases h1 : k = 1
                    · refine (mread_out ((k : Int) - 1) (by omega) _ W).mono ?_
                      rintro e w' ⟨rfl, hb⟩
                      exact ⟨⟨1, .inl rfl, rfl⟩, hb⟩
                    · refine (hrd ((k : Int) - 1) (by omega) (by omega) W hW).mono ?_
                      rintro e w' ⟨hb, ⟨h2, _⟩ | ⟨_, rfl⟩⟩
                      · rw [HN.out] at h2; omega
                      · exact ⟨⟨21, .inr rfl, rfl⟩, hb⟩
                  have HSECOND := Lib.hid hsecond
                  obtain ⟨y, hy⟩ : ∃ y, max 1 (min z 200) = y := ⟨_, rfl⟩
                  have HY : Hid (1 ≤ y ∧ y ≤ 200) := Lib.hid (by omega)
                  clear hlt hj hrd hsecond
                  go_wp2_with fail
                  refine (HRD.out k (by omega) (by omega) wr (Below.refl _ _)).mono ?_
                  rintro e w10 ⟨b10, ⟨-, g2, gs2, rfl, hmb⟩ | ⟨hne, -⟩⟩
                  · have B10 := Lib.hid b10
                    have HMB := Lib.hid hmb
                    clear b10 hmb
                    go_wp2_with fail
                    refine (HSECOND.out w10 B10.out).mono ?_
                    rintro e w11 ⟨⟨f, hf, rfl⟩, b11⟩
                    have B11 := Lib.hid (B10.out.trans (b11.mono B10.out.size))
                    have HMB11 := Lib.hid (HMB.out.below b11)
                    clear b11 HSECOND
                    go_wp2_with fail
                    refine (HRD.out y HY.out.1 HY.out.2 w11 B11.out).mono ?_
                    rintro e w12 ⟨b12, hpost⟩
                    have B12 := Lib.hid (B11.out.trans (b12.mono B11.out.size))
                    have HMB12 := Lib.hid (HMB11.out.below b12)
                    have his := is10_true HMB12.out (some ⟨b, off, none⟩) cap (HR2.out.below (BX.out.trans (B12.out.mono BX.out.size)))
                    rw [HN.out] at his
                    have HIS := Lib.hid his
                    clear b12 his
                    have HBX := Lib.hid (BX.out.trans (B12.out.mono BX.out.size))
                    rcases hf with rfl | rfl
                    all_goals
                      rcases hpost with ⟨hyk, g3, gs3, rfl, -⟩ | ⟨hyk, rfl⟩
                      · rw [HN.out] at hyk
                        obtain rfl := hyk
                        go_wp2_with fail
                        refine HIS.out.mono ?_
                        rintro e w13 ⟨rfl, b13⟩
                        have B13 := Lib.hid (HBX.out.trans (b13.mono HBX.out.size))
                        clear b13
                        go_wp2
                        go_ret
                        exact ⟨rfl, B13.out⟩
                      · rw [HN.out] at hyk
                        have hd : ¬ y = (k : Int) := hyk
                        clear hyk
                        go_wp2_with fail
                        refine HIS.out.mono ?_
                        rintro e w13 ⟨rfl, b13⟩
                        have B13 := Lib.hid (HBX.out.trans (b13.mono HBX.out.size))
                        clear b13
                        go_wp2
                        go_ret
                        have hb9 : (!(y == (k : Int))) = true := by simp [hd]
                        exact ⟨by show Ending.returned (Value.bool (!(y == (k : Int)))) = _; rw [hb9], B13.out⟩
                  · exact absurd (by rw [HN.out]) hne
            · rw [HALL.out.2] at hno
              cases hno
end Go.Proofs.Ytgakidimipipeaa
