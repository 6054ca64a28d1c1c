/- The law GeomSupers is true for every input: a geometry is written in a superblock, and read back; any sector is that of one, or of none. No condition. -/
import Derived.Test.YtdgmkobjdhmkdaaRRead
import Derived.Test.YtdgmkobjdhmkdaaAwake4
import Derived.Test.YtdgmkobjdhmkdaaGeoOpen
import Derived.Deep.DeepCutAuto
namespace Go.Proofs.Ytdgmkobjdhmkdaa
open Go.ChangeShapes Go.WideShapes Go.ChangeAt Go.RowKit Go.Sort
set_option linter.unusedVariables false
set_option maxRecDepth 100000

theorem numAt_super {s g i : Nat} (hs : s < 4294967296) (hg : g < 4294967296) (hi : i < 4294967296) : numAt (superB s g i) 0 = s ∧ numAt (superB s g i) 1 = g ∧ numAt (superB s g i) 2 = i := by
  have hl := superB_length s g i
  have e0 : ((superB s g i).drop (4 * 0)).take 4 = low s 4 := rfl
  have e1 : ((superB s g i).drop (4 * 1)).take 4 = low g 4 := rfl
  have e2 : ((superB s g i).drop (4 * 2)).take 4 = low i 4 := rfl
  refine ⟨?_, ?_, ?_⟩
  · unfold numAt; rw [if_pos (by omega), e0]; exact le_low _ _ hs
  · unfold numAt; rw [if_pos (by omega), e1]; exact le_low _ _ hg
  · unfold numAt; rw [if_pos (by omega), e2]; exact le_low _ _ hi
theorem bodyO_super (s g i : Nat) : bodyO (superL s g i) = superB s g i := by
  unfold bodyO superL
  rw [openB_sealL (by decide) (by rw [superB_length]; decide), if_pos rfl, sealL_body _ _ (by rw [superB_length]; decide)]
theorem super_is {s g i : Nat} (h : mayB s g i = true) : isSuper (superL s g i) = true ∧ superOf (superL s g i) 0 = s ∧ superOf (superL s g i) 1 = g ∧ superOf (superL s g i) 2 = i := by
  have hb := (mayB_yes h).1
  unfold bnd at hb
  obtain ⟨e0, e1, e2⟩ := numAt_super (s := s) (g := g) (i := i) (by omega) (by omega) (by omega)
  have f0 : superOf (superL s g i) 0 = s := by unfold superOf; rw [bodyO_super, e0]
  have f1 : superOf (superL s g i) 1 = g := by unfold superOf; rw [bodyO_super, e1]
  have f2 : superOf (superL s g i) 2 = i := by unfold superOf; rw [bodyO_super, e2]
  refine ⟨?_, f0, f1, f2⟩
  unfold isSuper
  rw [f0, f1, f2, h]
  simp

theorem run_neq_geom (a b c : Int) (w : World) : (binOp .neq 67 (.agg #[.int .i64 a, .int .i64 b, .int .i64 c]) (.agg #[.int .i64 a, .int .i64 b, .int .i64 c])).run Try.prog w = .ok (.bool false) w := by
  go_simp
theorem run_eql_geom (a b c : Int) (w : World) : (binOp .eql 67 (.agg #[.int .i64 a, .int .i64 b, .int .i64 c]) (.agg #[.int .i64 a, .int .i64 b, .int .i64 c])).run Try.prog w = .ok (.bool true) w := by
  go_simp

theorem byte_at {w : World} {a : Option Addr} {len : Nat} {l : List Nat} (h : Reads w a len l) (h0 : 0 < len) : ∃ b off, a = some ⟨b, off, none⟩ ∧ w.cell? ⟨b, off, none⟩ = some (.int .u8 ((l.getD 0 0 : Nat) : Int)) := by
  obtain ⟨h1, _, h3⟩ := h
  rcases h3 with rfl | ⟨b, off, rfl, _, hc⟩
  · simp at h1; omega
  · exact ⟨b, off, rfl, by have := hc 0 h0; simpa using this⟩

theorem noughts_bytes : Bytes noughts := by intro x hx; have := List.eq_of_mem_replicate hx; omega
def smallB (sd : Bool) (len : Nat) : Bool := sd && decide (0 < len ∧ len ≤ 120)
theorem smallB_yes {len : Nat} (h1 : 0 < len) (h2 : len ≤ 120) : smallB true len = true := by unfold smallB; rw [Bool.true_and]; exact decide_eq_true ⟨h1, h2⟩
theorem smallB_no {len : Nat} (h : ¬ (0 < len ∧ len ≤ 120)) : smallB true len = false := by unfold smallB; rw [Bool.true_and]; exact decide_eq_false h

set_option maxHeartbeats 1600000 in
theorem geomSupers_walk (s g i : Int) (a : Option Addr) (len cap : Nat) (l : List Nat) (sd : Bool) (w : World) (hr : Reads w a len l) (hl : len ≤ cap) (hc : cap ≤ 140737488351232) :
    Calls Try.prog 10 #[.agg #[.int .i64 s, .int .i64 g, .int .i64 i], .slice a len cap, .bool sd] w fun e w' => e = .returned (.bool true) ∧ Below w.heap.size w w' := by
  have hz := zero_sector
  have hz2 := zero_full
  have hb0 := below_box w (.cells #[.int .i64 s, .int .i64 g, .int .i64 i] 66)
  have hbox := box3_new w (.int .i64 s) (.int .i64 g) (.int .i64 i) 66
  go_enter Try.func10, Try.ntmps10
  go_wp2_with fail
  refine (awake4_true _).mono ?_
  rintro e w1 ⟨rfl, b1⟩
  have hb1 := below_next hb0 b1
  have hx1 := hbox.below b1
  clear hb0 hbox b1
  obtain ⟨hgx, c0, c1, c2⟩ := hx1
  go_wp2_with fail
  refine (rmay_any s g i _).mono ?_
  rintro e w2 ⟨rfl, b2⟩
  have hb2 := below_next hb1 b2
  have hx2 := Box3.below ⟨hgx, c0, c1, c2⟩ b2
  clear hb1 b2 c0 c1 c2 hgx
  go_upto_if 18 with fail
  go_cut [6] (fun _ wc => Below w.heap.size w wc)
  case first =>
    cases hM : mayB s g i with
    | false =>
      clear hM
      go_wp2
      go_meet
      exact hb2
    | true =>
      have HM := Lib.hid hM
      obtain ⟨hB, _⟩ := mayB_yes hM
      have HB := Lib.hid hB
      have hbd := hB
      unfold bnd at hbd
      clear hM hB
      obtain ⟨sn, rfl⟩ := Int.eq_ofNat_of_zero_le (show 0 ≤ s by omega)
      obtain ⟨gn, rfl⟩ := Int.eq_ofNat_of_zero_le (show 0 ≤ g by omega)
      obtain ⟨jn, rfl⟩ := Int.eq_ofNat_of_zero_le (show 0 ≤ i by omega)
      obtain ⟨q1, q2, q3, q4⟩ := super_is HM.out
      obtain ⟨hgx, c0, c1, c2⟩ := hx2
      go_wp2_with fail
      refine (own_any _ _ _ _).mono ?_
      rintro e w3 ⟨rfl, b3⟩
      have hb3 := below_next hb2 b3
      have hx3 := Box3.below ⟨hgx, c0, c1, c2⟩ b3
      clear hb2 b3 c0 c1 c2 hgx
      go_wp2_with fail
      refine (gsuper_nat _ HB.out).mono ?_
      rintro e w4 ⟨rfl, b4⟩
      have hb4 := below_next hb3 b4
      have hx4 := hx3.below b4
      have hSL := superL_length sn gn jn
      have hSB := superL_bytes sn gn jn
      have HRS : Hid (∀ w : World, Calls Try.prog 55 #[.agg #[.int .i64 sn, .int .i64 gn, .int .i64 jn]] w fun e w' => e = .returned (.agg (cells (superL sn gn jn))) ∧ Below w.heap.size w w') := fun w => rsuper_nat w HB.out
      clear hb3 hx3 b4
      generalize superL sn gn jn = L at *
      have HQ1 := Lib.hid q1
      have HQ2 := Lib.hid q2
      have HQ3 := Lib.hid q3
      have HQ4 := Lib.hid q4
      have HSL := Lib.hid hSL
      have hneq := run_neq_sector L L hSL hSL
      simp only [decide_true, Bool.not_true] at hneq
      have hg5 := heap_alloc_new w4 (.cells (cells L) 46)
      have HC5 := Lib.hid (block_cells HSL.out hg5)
      have hb5 := hb4.alloc hb4.size (.cells (cells L) 46)
      have hx5 := hx4.below (below_box w4 (.cells (cells L) 46))
      clear q1 q2 q3 q4 hSL hb4 hx4
      go_wp2_with (first | (refine wpList_store_sector rfl (.tmp 7) (.tmp 21) rfl w4.heap.size L rfl rfl HSL.out _ _ (heap_alloc_new w4 _) rfl ?_; rw [World.setRow_alloc_new]) | (refine wpList_load_sector rfl (.tmp 7) rfl w4.heap.size 0 L rfl HSL.out HC5.out ?_))
      generalize w4.alloc (.cells (cells L) 46) = w5 at *
      refine (gread_any L HSL.out hSB w5).mono ?_
      rintro e w6 ⟨b6, h6⟩
      have he : e = .returned (.tuple #[.agg #[.int .i64 sn, .int .i64 gn, .int .i64 jn], .int .i64 0]) := by
        rcases h6 with ⟨_, he⟩ | ⟨hn, _⟩
        · rw [HQ2.out, HQ3.out, HQ4.out] at he; exact he
        · rw [HQ1.out] at hn; cases hn
      subst he
      have hb6 := below_next hb5 b6
      have hx6 := hx5.below b6
      have hg6 : w6.heap[w4.heap.size]? = some (.cells (cells L) 46 (0, 0)) := by rw [b6.block _ (Array.getElem?_eq_some_iff.1 hg5).1]; exact hg5
      clear h6 hb5 b6 hx5 hg5 HC5
      have hb7 := hb6.alloc hb6.size (.cells #[.int .i64 sn, .int .i64 gn, .int .i64 jn] 67)
      have hx7 := hx6.below (below_box w6 (.cells #[.int .i64 sn, .int .i64 gn, .int .i64 jn] 67))
      have hy7 := box3_new w6 (.int .i64 sn) (.int .i64 gn) (.int .i64 jn) 67
      have hg7 : (w6.alloc (.cells #[.int .i64 sn, .int .i64 gn, .int .i64 jn] 67)).heap[w4.heap.size]? = some (.cells (cells L) 46 (0, 0)) := by
        rw [Below.heap_alloc _ _ _ (Array.getElem?_eq_some_iff.1 hg6).1]; exact hg6
      clear hb6 hx6 hg6
      go_wp2_with fail
      generalize w6.alloc (.cells #[.int .i64 sn, .int .i64 gn, .int .i64 jn] 67) = w7 at *
      have HG7 := Lib.hid hg7
      obtain ⟨hgx, c0, c1, c2⟩ := hx7
      obtain ⟨hgy, d0, d1, d2⟩ := hy7
      have k0 := cell_regrown c0
      have k1 := cell_regrown c1
      have k2 := cell_regrown c2
      have l0 := cell_regrown d0
      have l1 := cell_regrown d1
      have l2 := cell_regrown d2
      have hqg := run_neq_geom sn gn jn
      clear hg7
      refine wp_region_quiet_below (by kernel_rfl) (by kernel_rfl) ?_
      repeat (first
        | (go_big_quiet_want; (refine quiet_load_sector (.tmp 7) rfl w4.heap.size 0 L rfl HSL.out (box_regrown (w := w) HSL.out HG7.out) ?_); go_simp; go_big_quiet_on)
        | go_big_quiet_step (first
          | (go_at_call 55; exact Calls.regrown_of (HRS.out _))
          | (go_at_call 32; exact Calls.regrown_of (own_any _ _ _ _))))
      refine wpQuiet_nil (regrown_name fun w8 b8 => ?_)
      go_wp2
      go_meet
      exact below_next hb7 b8
  case rest =>
    clear hb2 hx2
    have hr1 := hr.below hcut
    have hm : len ≤ maxLen := by unfold maxLen; omega
    go_wp2_with fail
    refine (full_any a len cap l _ hr1 hm).mono ?_
    rintro e w3 ⟨rfl, b3⟩
    have hb3 := below_next hcut b3
    have hFL := fullL_length l
    have hFB := fullL_bytes hr.2.1
    generalize fullL l = F at *
    have HFL := Lib.hid hFL
    have hg4 := heap_alloc_new w3 (.cells (cells F) 45)
    have hb4 := hb3.alloc hb3.size (.cells (cells F) 45)
    have hw3 := hb3.size
    clear hFL b3 hb3 hcut hr1
    have HG4 := Lib.hid hg4
    clear hg4
    go_upto_region 9 with (refine wpList_store_full rfl (.tmp 10) (.tmp 42) rfl w3.heap.size F rfl rfl HFL.out _ _ (heap_alloc_new w3 _) rfl ?_; rw [World.setRow_alloc_new])
    dsimp only [Act.put]
    generalize w3.alloc (.cells (cells F) 45) = w4 at *
    go_cut [53] (fun v wx => v = .bool (smallB sd len) ∧ wx = w4)
    case first =>
      cases sd with
      | false =>
        go_wp2
        go_meet
        exact ⟨rfl, rfl⟩
      | true =>
        by_cases h1 : 0 < len
        · by_cases h2 : len ≤ 120
          · go_wp2
            go_meet
            exact ⟨by first | (rw [smallB_yes h1 h2]; done) | (rw [smallB_yes h1 h2]; simp; omega), rfl⟩
          · go_wp2
            go_meet
            exact ⟨by first | (rw [smallB_no (by omega)]; done) | (rw [smallB_no (by omega)]; simp; omega), rfl⟩
        · go_wp2
          go_meet
          exact ⟨by first | (rw [smallB_no (by omega)]; done) | (rw [smallB_no (by omega)]; simp; omega), rfl⟩
    case rest =>
      obtain ⟨rfl, rfl⟩ := hcut
      go_upto_if 53 with fail
      go_cut [6] (fun _ wx => ∃ S, S.length = 128 ∧ Bytes S ∧ wx.heap[w3.heap.size]? = some (.cells (cells S) 45 (0, 0)) ∧ Below w.heap.size w wx)
      case first =>
        cases hq : smallB sd len with
        | false =>
          clear hq
          go_wp2
          go_meet
          exact ⟨F, HFL.out, hFB, HG4.out, hb4⟩
        | true =>
          unfold smallB at hq
          simp only [Bool.and_eq_true, decide_eq_true_eq] at hq
          obtain ⟨hsd, h1, h2⟩ := hq
          clear hsd
          have hr4 := hr.below hb4
          obtain ⟨bb, off, rfl, hcb⟩ := byte_at hr4 h1
          have hi : (0 : Int) < len := by omega
          have hx := hr.2.1.getD 0
          obtain ⟨kd, hkd⟩ : ∃ kd, l.getD 0 0 = kd := ⟨_, rfl⟩
          rw [hkd] at hcb hx
          have hlen := hr.1
          have HLEN := Lib.hid hlen
          clear hkd hlen
          have hgl := (Array.getElem?_eq_some_iff.1 HG4.out).1
          by_cases hk0 : kd = 0
          · have HK0 := Lib.hid hk0
            clear hk0
            go_wp2_with fail
            refine (rmake_no kd l _ _ _ _ hm (.inl HK0.out)).mono ?_
            rintro e w5 ⟨rfl, b5⟩
            have HG5 : Hid (w5.heap[w3.heap.size]? = some (.cells (cells F) 45 (0, 0))) := by show _ = _; rw [b5.block _ hgl]; exact HG4.out
            have hb5 := below_next hb4 b5
            have HSZ : Hid ((cells F).size = 128) := by show _ = _; rw [cells_size]; exact HFL.out
            clear b5 hb4 hcb hr4
            go_wp2_with (refine wpList_store_full rfl (.tmp 10) (.tmp 60) rfl w3.heap.size noughts rfl rfl rfl _ _ HG5.out HSZ.out ?_)
            go_meet
            exact ⟨noughts, rfl, noughts_bytes, setRow_heap _ _ _ _ _ _ HG5.out, below_setRow hb5 hw3 _⟩
          · have HK0 := Lib.hid hk0
            clear hk0
            go_wp2_with fail
            refine (rmake_ok kd l _ _ _ _ hr4 h2 hx HK0.out).mono ?_
            rintro e w5 ⟨rfl, b5⟩
            have HG5 : Hid (w5.heap[w3.heap.size]? = some (.cells (cells F) 45 (0, 0))) := by show _ = _; rw [b5.block _ hgl]; exact HG4.out
            have hb5 := below_next hb4 b5
            have HSZ : Hid ((cells F).size = 128) := by show _ = _; rw [cells_size]; exact HFL.out
            have hll : l.length ≤ 120 := by have := HLEN.out; omega
            have hQL := sealL_length (kind := kd) hll
            have hQB := sealL_bytes hx hr.2.1 hll
            generalize sealL kd l = Q at *
            have HQL := Lib.hid hQL
            clear b5 hb4 hcb hr4 hQL
            go_wp2_with (refine wpList_store_full rfl (.tmp 10) (.tmp 60) rfl w3.heap.size Q rfl rfl HQL.out _ _ HG5.out HSZ.out ?_)
            go_meet
            exact ⟨Q, HQL.out, hQB, setRow_heap _ _ _ _ _ _ HG5.out, below_setRow hb5 hw3 _⟩
      case rest =>
        obtain ⟨S, hSL, hSB, hg, hb⟩ := hcut
        clear hb4 HG4 HFL hFB
        have HSL := Lib.hid hSL
        have HG := Lib.hid hg
        clear hSL hg
        go_wp2_with (refine wpList_load_full rfl (.tmp 10) rfl w3.heap.size 0 S rfl HSL.out (block_cells HSL.out HG.out) ?_)
        have hgl := (Array.getElem?_eq_some_iff.1 HG.out).1
        refine (gread_any S HSL.out hSB wc).mono ?_
        rintro e w5 ⟨b5, h5⟩
        obtain ⟨x0, x1, x2, er, ok, hok, he, hrr⟩ : ∃ (x0 x1 x2 er : Int) (ok : Bool), (ok = true ∧ er = 0 ∨ ok = false ∧ er = 21) ∧ e = .returned (.tuple #[.agg #[.int .i64 x0, .int .i64 x1, .int .i64 x2], .int .i64 er]) ∧
            (∀ w e' w', RReadPost S w e' w' → Below w.heap.size w w' ∧ e' = .returned (.tuple #[.agg #[.int .i64 x0, .int .i64 x1, .int .i64 x2], .bool ok])) := by
          rcases h5 with ⟨hi, rfl⟩ | ⟨hi, rfl⟩
          · refine ⟨_, _, _, 0, true, .inl ⟨rfl, rfl⟩, rfl, fun w e' w' h => ⟨h.1, ?_⟩⟩
            rcases h.2 with ⟨_, he⟩ | ⟨hn, _⟩
            · exact he
            · rw [hi] at hn; cases hn
          · refine ⟨0, 0, 0, 21, false, .inr ⟨rfl, rfl⟩, rfl, fun w e' w' h => ⟨h.1, ?_⟩⟩
            rcases h.2 with ⟨hn, _⟩ | ⟨_, he⟩
            · rw [hi] at hn; cases hn
            · exact he
        subst he
        have hb5 := below_next hb b5
        have HG5 : Hid (w5.heap[w3.heap.size]? = some (.cells (cells S) 45 (0, 0))) := by show _ = _; rw [b5.block _ hgl]; exact HG.out
        have hgl5 := (Array.getElem?_eq_some_iff.1 HG5.out).1
        have HG6 : Hid ((w5.alloc (.cells #[.int .i64 x0, .int .i64 x1, .int .i64 x2] 67)).heap[w3.heap.size]? = some (.cells (cells S) 45 (0, 0))) := by show _ = _; rw [Below.heap_alloc _ _ _ hgl5]; exact HG5.out
        have hb6 := hb5.alloc hb5.size (.cells #[.int .i64 x0, .int .i64 x1, .int .i64 x2] 67)
        have hx6 := box3_new w5 (.int .i64 x0) (.int .i64 x1) (.int .i64 x2) 67
        have HRR := Lib.hid hrr
        have HOK := Lib.hid hok
        clear h5 hrr hb b5 hb5 HG hok
        go_wp2_with (refine wpList_load_full rfl (.tmp 10) rfl w3.heap.size 0 S rfl HSL.out (block_cells HSL.out HG6.out) ?_)
        generalize w5.alloc (.cells #[.int .i64 x0, .int .i64 x1, .int .i64 x2] 67) = w6 at *
        refine (rread_any S HSL.out hSB w6).mono ?_
        rintro e w7 h7
        obtain ⟨b7, rfl⟩ := HRR.out _ _ _ h7
        have hb7 := below_next hb6 b7
        have hx7 := hx6.below b7
        have hb8 := hb7.alloc hb7.size (.cells #[.int .i64 x0, .int .i64 x1, .int .i64 x2] 66)
        have hx8 := hx7.below (below_box w7 (.cells #[.int .i64 x0, .int .i64 x1, .int .i64 x2] 66))
        have hy8 := box3_new w7 (.int .i64 x0) (.int .i64 x1) (.int .i64 x2) 66
        clear h7 hb6 hx6 b7 hx7 hb7
        go_wp2_with fail
        generalize w7.alloc (.cells #[.int .i64 x0, .int .i64 x1, .int .i64 x2] 66) = w8 at *
        obtain ⟨hgx, c0, c1, c2⟩ := hx8
        obtain ⟨hgy, d0, d1, d2⟩ := hy8
        have k0 := cell_regrown c0
        have k1 := cell_regrown c1
        have k2 := cell_regrown c2
        have l0 := cell_regrown d0
        have l1 := cell_regrown d1
        have l2 := cell_regrown d2
        have hqg := run_eql_geom x0 x1 x2
        have hok := HOK.out
        rcases hok with ⟨rfl, rfl⟩ | ⟨rfl, rfl⟩
        all_goals
          clear HOK HRR
          refine wp_region_quiet_below (by kernel_rfl) (by kernel_rfl) ?_
          repeat (go_big_quiet_step (first
            | (go_at_call 32; exact Calls.regrown_of (own_any _ _ _ _))))
          refine wpQuiet_nil (regrown_name fun w9 b9 => ?_)
          go_wp2
          go_ret
          exact ⟨rfl, below_next hb8 b9⟩
set_option maxRecDepth 100000 in
theorem geomSupers_lifted (os : Os) (started : os.Started) (H : Type) (enc : TypeId × Value → H) :
    ReturnsInHanded {} Try.checked os 10 .any (Rows.geomSupersSpec.pre6 enc Try.prog Try.f10 Rows.geomSupersRow.domain false) (Rows.geomSupersSpec.post enc Try.prog Try.f10 false true false false) :=
  law_lifted (s := Rows.geomSupersSpec) started Try.func10 (by kernel_rfl) rfl (fun ds hd => by
        match ds, hd with
        | [_, _, _], _ => rfl) rfl
      (of_decide_eq_true (by kernel_rfl))
      (ChangeSpec.witness6 (enc := enc) (C := Try.checked) false ⟨#[], #[.agg #[.int .i64 0, .int .i64 0, .int .i64 0], .slice none 0 0, .bool false], []⟩ 8 (by kernel_rfl) (by kernel_rfl) (by kernel_rfl) (by kernel_rfl))
      (fun W base args ds ps hval hA hsz => by
        rw [Try.params10] at hA hval hsz
        obtain ⟨v0, vs0, d0, ds0, p0, q0, hargs, rfl, rfl, h0, r0⟩ := trodAll_cons hA
        obtain ⟨v1, vs1, d1, ds1, p1, q1, rfl, rfl, rfl, h1, r1⟩ := trodAll_cons r0
        obtain ⟨v2, vs2, d2, ds2, p2, q2, rfl, rfl, rfl, h2, r2⟩ := trodAll_cons r1
        obtain ⟨rfl, rfl, rfl⟩ := trodAll_nil r2
        obtain rfl : args = #[v0, v1, v2] := by cases args; simp_all
        simp only [DataW.weightsEach, List.all_append, Bool.and_eq_true] at hsz
        obtain ⟨z0, z1, z2, _⟩ := hsz
        obtain ⟨s, g, i, rfl, _, _, _⟩ := open_geom (hval 0 66 v0 rfl rfl) h0
        obtain ⟨a, len, cap, l, rfl, hr, hl, hc⟩ := open_bytes (hval 1 33 v1 rfl rfl) h1 z1
        obtain ⟨sd, rfl, rfl, rfl⟩ := open_bool Try.underlying4 (hval 2 4 v2 rfl rfl) h2
        exact geomSupers_walk s g i a len cap l sd W hr hl hc)

theorem geomSupers_holds : Rows.GeomSupersSaid :=
  OpenClaim.holds_of_wide 10 Try.f10 rfl rfl rfl rfl rfl rfl rfl ⟨rfl, rfl, rfl, rfl, rfl⟩ rfl rfl rfl rfl rfl (by kernel_rfl) Try.func10 (by kernel_rfl)
    (of_decide_eq_true (by kernel_rfl)) (by unfold Func.isWrapper; first | (rw [if_pos (by decide +kernel)]; kernel_rfl) | (rw [if_neg (by decide +kernel)]; exact ⟨rfl, rfl⟩))
    (fun os started H enc _ => geomSupers_lifted os started H enc)
#print axioms geomSupers_holds
end Go.Proofs.Ytdgmkobjdhmkdaa
