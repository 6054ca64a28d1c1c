/- The document's table of processes: Wait. (Printed by wip/gen/rtr9.py.) -/
import Derived.Test.YtnengblmcfiajaaGeplpkapg
import Derived.Test.YtnengblmcfiajaaLast
namespace Go.Proofs.Ytnengblmcfiajaa
open Go.RowKit Go.Sort
set_option linter.unusedVariables false
set_option linter.unusedSimpArgs false
set_option maxRecDepth 100000

theorem size_rprocT (W : World) : (Go.sizeOf 78).run Try.prog W = .ok 6 W := by kernel_rfl
theorem slice_lowR (gs L cap j : Nat) (hj : j ≤ L) (hL : L ≤ cap) (W : World) : (Instr.sliceAt 26 (.slice (some ⟨gs, 0, none⟩) L cap) (some (.int .i64 (j : Int))) none none).run Try.prog W = .ok (.slice (some (if cap = j then ⟨gs, 0, none⟩ else ⟨gs, j * 6, none⟩)) (L - j) (cap - j)) W := by
  have ht : Try.prog.underlying 26 = some (.slice (Try.prog.elem 26)) := by kernel_rfl
  have he : Try.prog.elem 26 = 78 := by kernel_rfl
  rw [run_sliceAt_slice _ _ _ _ _ _ ht, run_slice_l _ _ _ _ _ ht .i64 _ (by omega) (by omega), he, size_rprocT]
  simp only [Result.andThen_ok, sliced, Int.toNat_natCast]
  by_cases h : cap = j
  · simp [h]
  · simp [h, Addr.add]
    try (intro h0; exact h0.symm)
theorem slice_highR (gs L cap i : Nat) (hi : i ≤ cap) (hc : 0 < cap) (W : World) : (Instr.sliceAt 26 (.slice (some ⟨gs, 0, none⟩) L cap) none (some (.int .i64 (i : Int))) none).run Try.prog W = .ok (.slice (some ⟨gs, 0, none⟩) i cap) W := by
  have ht : Try.prog.underlying 26 = some (.slice (Try.prog.elem 26)) := by kernel_rfl
  have he : Try.prog.elem 26 = 78 := by kernel_rfl
  rw [run_sliceAt_slice _ _ _ _ _ _ ht, run_slice_h _ _ _ _ _ ht .i64 _ (by omega) (by omega), he, size_rprocT]
  simp only [Result.andThen_ok, sliced, Int.toNat_natCast, Nat.sub_zero]
  rw [if_neg (by omega)]
  simp [Addr.add]
theorem reads_take {w : World} {gs k : Nat} {l : List (List Value)} (h : ReadsR w (some ⟨gs, 0, none⟩) k l) (i : Nat) : ReadsR w (some ⟨gs, 0, none⟩) k (l.take i) := by
  obtain ⟨h0, rfl | ⟨b, off, e, hb, hc⟩⟩ := h
  · exact ⟨by simp, .inl (by simp)⟩
  · cases e
    refine ⟨fun p hp => h0 p (List.mem_of_mem_take hp), .inr ⟨gs, 0, rfl, hb, fun m u hu => hc m u ?_⟩⟩
    rw [flatR_take l i h0, List.getElem?_take] at hu
    split at hu
    · exact hu
    · cases hu
theorem reads_drop {w : World} {gs k cap j : Nat} {l : List (List Value)} (h : ReadsR w (some ⟨gs, 0, none⟩) k l) (hj : j ≤ l.length) (hc : l.length ≤ cap) : ReadsR w (some (if cap = j then ⟨gs, 0, none⟩ else ⟨gs, j * k, none⟩)) k (l.drop j) := by
  obtain ⟨h0, rfl | ⟨b, off, e, hb, hc2⟩⟩ := h
  · exact ⟨by simp, .inl (by simp)⟩
  · cases e
    refine ⟨fun p hp => h0 p (List.mem_of_mem_drop hp), ?_⟩
    by_cases e : cap = j
    · exact .inl (List.drop_eq_nil_of_le (by omega))
    · rw [if_neg e]
      refine .inr ⟨gs, j * k, rfl, hb, fun m u hu => ?_⟩
      have e1 : flatR l = flatR (l.take j) ++ flatR (l.drop j) := by rw [← flatR_append, List.take_append_drop]
      have e2 : (flatR (l.take j)).length = j * k := by
        rw [flatR_length (k := k) (fun p hp => h0 p (List.mem_of_mem_take hp)), List.length_take]
        congr 1; omega
      have := hc2 (j * k + m) u (by rw [e1, List.getElem?_append_right (by omega), e2, Nat.add_sub_cancel_left]; exact hu)
      rwa [Nat.zero_add] at this
def RWaitPost := RPost22
set_option maxHeartbeats 3200000 in
theorem rwait_is {B : Nat} {w : World} {v : Value} {T : TabD} (h : RTab B w v T) (hB : B ≤ w.heap.size) (hI : TrInv T) (n : Int) :
    Calls Try.prog 37 #[v, .int .i64 n] w (RPost22 B w (waitF T n).1 [.int .i64 (waitF T n).2.1, .int .i64 (waitF T n).2.2.1, .int .i64 (waitF T n).2.2.2]) := by
  have H := Lib.hid h
  obtain ⟨a, c, rfl, hr, hc, o1, o2, o3, o4, o5, o6, o7⟩ := h.reads
  obtain ⟨w1, w2, g0, g1, hw1, hw2, hg0, hg1, HP⟩ := bx_new w (.slice a T.list.length c) T.most T.last T.now
  have HR := Lib.hid hr
  have HLV := Lib.hid (fun (W : World) (hW : Below w.heap.size w W) => rlive_is (H.out.below hW) n)
  have HOK := Lib.hid (show TabOk T from ⟨o1, o2, o3, o4, o5, o6, o7⟩)
  unfold waitF
  rcases gone_cases T n with ⟨e, _⟩ | ⟨e, i, s, hf, hs, hp⟩
  · rw [if_pos e]
    simp only [e, if_true] at HLV
    unfold rtabV at H HLV ⊢
    clear e h hr hc o1 o2 o3 o4 o5 o6 o7 HR hI
    go_enter Try.func37, Try.ntmps37
    obtain ⟨⟨t0, t1, t2, t3⟩, _, _⟩ := HP.out.t.cells
    go_wp2_with fail
    refine (HLV.out w2 HP.out.b).mono ?_
    rintro e w3 ⟨rfl, b3⟩
    have HP3 := Lib.hid (HP.out.below b3)
    clear t0 t1 t2 t3 b3
    obtain ⟨⟨t0, t1, t2, t3⟩, _, _⟩ := HP3.out.t.cells
    obtain ⟨⟨r0, r1, r2, r3⟩, rf, W', hW', HF⟩ := HP3.out.fin (.slice a T.list.length c) T.most T.last T.now
    go_wp2
    exact bodyPost_ret (results_rt4 rfl _ _ g1 rfl HF.out.1) rfl ⟨_, rfl, H.out.below HF.out.2.1, HF.out.2.1⟩
  · rw [if_neg (by rw [e]; decide)]
    simp only [e, Bool.false_eq_true, if_false] at HLV
    by_cases hch : thoseL (parentB n) T.list = []
    · rw [if_pos hch]
      have HCN : Hid ((intsV (thoseL (parentB n) T.list)).length = 0) := Lib.hid (by rw [hch]; rfl)
      have HCH := Lib.hid (fun (W : World) (hW : Below w.heap.size w W) => rchildren_is (H.out.below hW) n)
      unfold rtabV at H HLV ⊢
      clear e h hr hc o1 o2 o3 o4 o5 o6 o7 HR hI hf hs hp hch
      go_enter Try.func37, Try.ntmps37
      obtain ⟨⟨t0, t1, t2, t3⟩, _, _⟩ := HP.out.t.cells
      go_wp2_with fail
      refine (HLV.out w2 HP.out.b).mono ?_
      rintro e w3 ⟨rfl, b3⟩
      have HP3 := Lib.hid (HP.out.below b3)
      clear t0 t1 t2 t3 b3
      obtain ⟨⟨t0, t1, t2, t3⟩, _, _⟩ := HP3.out.t.cells
      go_wp2_with fail
      refine (HCH.out w3 HP3.out.b).mono ?_
      rintro e w5 ⟨v5, rfl, ho5, b5⟩
      obtain ⟨a5, c5, rfl, _, _, _⟩ := ho5.reads
      have HP5 := Lib.hid (HP3.out.below b5)
      obtain ⟨q, hq⟩ : ∃ x, (intsV (thoseL (parentB n) T.list)).length = x := ⟨_, rfl⟩
      rw [hq] at HCN ⊢
      have hq0 : ((q : Int) == 0) = true := by have := HCN.out; simp; omega
      clear t0 t1 t2 t3 b5 ho5 hq
      obtain ⟨⟨t0, t1, t2, t3⟩, _, _⟩ := HP5.out.t.cells
      obtain ⟨⟨r0, r1, r2, r3⟩, rf, W', hW', HF⟩ := HP5.out.fin (.slice a T.list.length c) T.most T.last T.now
      go_wp2
      exact bodyPost_ret (results_rt4 rfl _ _ g1 rfl HF.out.1) rfl ⟨_, rfl, H.out.below HF.out.2.1, HF.out.2.1⟩
    · rw [if_neg hch]
      have HCN : Hid ((intsV (thoseL (parentB n) T.list)).length ≠ 0) := Lib.hid (by rw [intsV_length]; intro e; exact hch (List.length_eq_zero_iff.1 e))
      have htw := tr_wait hI n
      unfold waitF at htw
      rw [if_neg (by rw [e]; decide), if_neg hch] at htw
      obtain ⟨gs, c0, e0⟩ : ∃ gs c0, Value.slice a T.list.length c = .slice (some ⟨gs, 0, none⟩) T.list.length c0 := by
        obtain ⟨a', c', e', ho', _⟩ := H.out
        have e2 : Value.slice a T.list.length c = .slice a' T.list.length c' := by
          have := congrArg (fun v => match v with | .agg cs => cs[0]! | _ => undef) e'
          exact this
        obtain ⟨g9, c9, e9⟩ := own_formT ho' (by rw [procsV_length]; exact o3)
        rw [procsV_length] at e9
        exact ⟨g9, c9, e2.trans e9⟩
      cases e0
      have HCAP := Lib.hid hc
      obtain ⟨r, hrr⟩ : ∃ r : TabD × Int × Int × Int, (if firstI (zombieB n) T.list = -1 then (T, 0, 0, 15) else ({ T with list := T.list.eraseIdx (firstI (zombieB n) T.list).toNat }, (T.list[(firstI (zombieB n) T.list).toNat]?.getD zeroT).pid, (T.list[(firstI (zombieB n) T.list).toNat]?.getD zeroT).code, 0)) = r := ⟨_, rfl⟩
      rw [hrr] at htw ⊢
      have HRR := Lib.hid hrr
      have HLEN1 := Lib.hid htw.len
      clear htw
      clear hrr
      have HCH := Lib.hid (fun (W : World) (hW : Below w.heap.size w W) => rchildren_is (H.out.below hW) n)
      unfold rtabV at H HLV ⊢
      clear e h hr hc o1 o2 o5 o6 o7 hI hf hs hp hch
      go_enter Try.func37, Try.ntmps37
      obtain ⟨⟨t0, t1, t2, t3⟩, _, _⟩ := HP.out.t.cells
      go_wp2_with fail
      refine (HLV.out w2 HP.out.b).mono ?_
      rintro e w3 ⟨rfl, b3⟩
      have HP3 := Lib.hid (HP.out.below b3)
      clear t0 t1 t2 t3 b3
      obtain ⟨⟨t0, t1, t2, t3⟩, _, _⟩ := HP3.out.t.cells
      go_wp2_with fail
      refine (HCH.out w3 HP3.out.b).mono ?_
      rintro e w5 ⟨v5, rfl, ho5, b5⟩
      obtain ⟨a5, c5, rfl, _, _, _⟩ := ho5.reads
      have HP5 := Lib.hid (HP3.out.below b5)
      obtain ⟨q, hq⟩ : ∃ x, (intsV (thoseL (parentB n) T.list)).length = x := ⟨_, rfl⟩
      rw [hq] at HCN ⊢
      have hq0 : ((q : Int) == 0) = false := by have := HCN.out; simp; omega
      clear t0 t1 t2 t3 b5 ho5 hq
      obtain ⟨⟨t0, t1, t2, t3⟩, _, _⟩ := HP5.out.t.cells
      clear HLV HCH HCN
      go_wp2
      go_loopw [9] (fun i wr => ∃ k : Nat, k ≤ T.list.length ∧ i = .int .i64 k ∧ Hid (placesL (zombieB n) T.list k = []) ∧ Hid (Below w5.heap.size w5 wr)) (fun i _ => T.list.length - (intOf i).toNat)
      case atStart => exact ⟨0, Nat.zero_le _, rfl, Lib.hid rfl, Lib.hid (Below.refl _ _)⟩
      case round =>
        obtain ⟨k, hk, rfl, HO, HB⟩ := hrel
        clear hq0 HP HP3
        clear t0 t1 t2 t3
        have hx1 : (0 : Int) ≤ (k : Int) := by omega
        have HPR := Lib.hid (HP5.out.below HB.out)
        obtain ⟨⟨t0, t1, t2, t3⟩, _, _⟩ := HPR.out.t.cells
        by_cases hlt : k < T.list.length
        · obtain ⟨u, hrow⟩ : ∃ r, T.list[k]? = some r := ⟨_, List.getElem?_eq_getElem hlt⟩
          have HRD := Lib.hid (HR.out.below HPR.out.b)
          obtain ⟨b, off, e9, hb, hcc⟩ := HRD.out.row (procsV_get hrow)
          cases e9
          have HROW := Lib.hid hrow
          have hzb : zombieB n u = (decide (u.state = 3) && decide (u.parent = n)) := rfl
          obtain ⟨u0, u1, u2, u3, u4, u5⟩ := u
          dsimp only at hzb
          have d0 : wr.cell? ⟨gs, 0 + k * 6, none⟩ = some (.int .i64 u0) := hcc 0 _ rfl
          have d1 : wr.cell? ⟨gs, 0 + k * 6 + 1, none⟩ = some (.int .i64 u1) := by have := hcc 1 _ rfl; rwa [← Nat.add_assoc] at this
          have d2 : wr.cell? ⟨gs, 0 + k * 6 + 2, none⟩ = some (.int .i64 u2) := by have := hcc 2 _ rfl; rwa [← Nat.add_assoc] at this
          have d3 : wr.cell? ⟨gs, 0 + k * 6 + 3, none⟩ = some (.int .i64 u3) := by have := hcc 3 _ rfl; rwa [← Nat.add_assoc] at this
          have d4 : wr.cell? ⟨gs, 0 + k * 6 + 4, none⟩ = some (.int .i64 u4) := by have := hcc 4 _ rfl; rwa [← Nat.add_assoc] at this
          have d5 : wr.cell? ⟨gs, 0 + k * 6 + 5, none⟩ = some (.bool u5) := by have := hcc 5 _ rfl; rwa [← Nat.add_assoc] at this
          rw [Nat.zero_add] at d0 d1 d2 d3 d4 d5
          have hx2 : (k : Int) < (T.list.length : Int) := by omega
          have HLT := Lib.hid hlt
          clear hcc hrow hb hlt
          by_cases hp : u1 = n
          · have hq1 : (u1 == n) = true := by simpa using hp
            by_cases hs : u2 = 3
            · have hq2 : (u2 == 3) = true := by simpa using hs
              have hfi : firstI (zombieB n) T.list = (k : Int) := firstI_hit HO.out HROW.out (by rw [hzb, decide_eq_true hs, decide_eq_true hp]; rfl)
              have HRE : Hid (r = ({ T with list := T.list.eraseIdx k }, u0, u3, 0)) := Lib.hid (by rw [← HRR.out, if_neg (by rw [hfi]; omega), hfi, show ((k : Int)).toNat = k from rfl, HROW.out]; rfl)
              have hl2 : 1 ≤ (T.list.eraseIdx k).length := by
                have h1 := HLEN1.out
                rw [HRE.out] at h1
                exact h1
              have hkl := HLT.out
              have hcap := HCAP.out
              obtain ⟨J, hJ⟩ : ∃ J, k + 1 = J := ⟨_, rfl⟩
              have hs1 := fun W => slice_highR gs T.list.length c k (by omega) (by omega) W
              have hs2 := fun W => slice_lowR gs T.list.length c J (by omega) (by omega) W
              have hrt := fun (W : World) (hW : Below w.heap.size w W) => reads_take (HR.out.below hW) k
              have hrd := fun (W : World) (hW : Below w.heap.size w W) => reads_drop (j := J) (cap := c) (HR.out.below hW) (by rw [procsV_length]; omega) (by rw [procsV_length]; exact hcap)
              obtain ⟨A, hA⟩ : ∃ A : Addr, (if c = J then (⟨gs, 0, none⟩ : Addr) else ⟨gs, J * 6, none⟩) = A := ⟨_, rfl⟩
              rw [hA] at hs2 hrd
              have HRT := Lib.hid (fun (W : World) (hW : Below w.heap.size w W) => show ReadsR W (some ⟨gs, 0, none⟩) 6 (procsV (T.list.take k)) from by have := hrt W hW; unfold procsV at this ⊢; rw [List.map_take]; exact this)
              have HRDP := Lib.hid (fun (W : World) (hW : Below w.heap.size w W) => show ReadsR W (some A) 6 (procsV (T.list.drop J)) from by have := hrd W hW; unfold procsV at this ⊢; rw [List.map_drop]; exact this)
              have HER : Hid (procsV (T.list.take k) ++ procsV (T.list.drop J) = procsV (T.list.eraseIdx k)) := Lib.hid (by unfold procsV; rw [← List.map_append, ← hJ, List.eraseIdx_eq_take_drop_succ])
              have HOKR : Hid (TabOk { T with list := T.list.eraseIdx k }) := Lib.hid ⟨HOK.out.1, HOK.out.2.1, hl2, Nat.le_trans (List.eraseIdx_sublist _ _).length_le HOK.out.2.2.2.1, HOK.out.2.2.2.2⟩
              have hx3 : IntKind.i64.wrap ((k : Int) + 1) = (J : Int) := by rw [IntWalk.i64_in _ (by omega)]; omega
              have HL2 := Lib.hid hl2
              have kq := below_box wr (.cells #[.int .i64 u0, .int .i64 u1, .int .i64 u2, .int .i64 u3, .int .i64 u4, .bool u5] 78)
              have nq : BoxQ _ wr.heap.size ⟨u0, u1, u2, u3, u4, u5⟩ := heap_alloc_new wr (.cells #[.int .i64 u0, .int .i64 u1, .int .i64 u2, .int .i64 u3, .int .i64 u4, .bool u5] 78)
              have HCP := Lib.hid (show CopyPre w (wr.alloc (.cells #[.int .i64 u0, .int .i64 u1, .int .i64 u2, .int .i64 u3, .int .i64 u4, .bool u5] 78)).drew g0 g1 (.slice (some ⟨gs, 0, none⟩) T.list.length c) T.most T.last T.now (some ⟨gs, 0, none⟩) T.list from ⟨(HPR.out.below kq).below (below_drew _), (HRD.out.below kq).below (below_drew _)⟩)
              have HNQ := Lib.hid (show BoxQ (wr.alloc (.cells #[.int .i64 u0, .int .i64 u1, .int .i64 u2, .int .i64 u3, .int .i64 u4, .bool u5] 78)).drew wr.heap.size ⟨u0, u1, u2, u3, u4, u5⟩ from nq.below (below_drew _))
              have HG9 := Lib.hid (show g0 < wr.heap.size ∧ g1 < wr.heap.size from ⟨HPR.out.t.cells.2.2, HPR.out.r.cells.2.2⟩)
              have HJ := Lib.hid hJ
              have hj1 : ¬ c < J := by omega
              have hj2 : J ≤ T.list.length := by omega
              clear hJ hrt hrd hA hfi hzb hs hp hl2 kq nq HRR HLEN1 HROW HO HRD
              go_upto_region 11 with fail
              clear d0 d1 d2 d3 d4 d5 t0 t1 t2 t3
              obtain ⟨wq, hwq⟩ : ∃ x, wr.alloc (.cells #[.int .i64 u0, .int .i64 u1, .int .i64 u2, .int .i64 u3, .int .i64 u4, .bool u5] 78) = x := ⟨_, rfl⟩
              rw [hwq] at HCP HNQ ⊢
              obtain ⟨gp, hgp⟩ : ∃ x, wr.heap.size = x := ⟨_, rfl⟩
              rw [hgp] at HNQ HG9 ⊢
              clear hwq hgp
              go_cut [45] (fun v45 wc => ∃ gN cN, Hid (Bx w wc g0 g1 (.slice (some ⟨gN, 0, none⟩) (T.list.eraseIdx k).length cN) T.most T.last T.now ∧ OwnsR' w.heap.size wc 78 6 (.slice (some ⟨gN, 0, none⟩) (T.list.eraseIdx k).length cN) (procsV (T.list.eraseIdx k))) ∧ Hid (BoxQ wc gp ⟨u0, u1, u2, u3, u4, u5⟩))
              case first =>
                refine wp_region_last (S := fun W => W.cell? ⟨g0, 0, none⟩ = some (.slice (some ⟨gs, 0, none⟩) T.list.length c) ∧ W.cell? ⟨g0, 1, none⟩ = some (.int .i64 T.most) ∧ W.cell? ⟨g0, 2, none⟩ = some (.int .i64 T.last) ∧ W.cell? ⟨g0, 3, none⟩ = some (.int .i64 T.now)) (n := 13) (by kernel_rfl) HCP.out.bx.t.cells.1 (fun hHeld => ?_)
                generalize wq.drew = x2 at *
                have HSB := Lib.hid (fun (W : World) (k : Below x2.heap.size x2 W) => (HCP.out.below k).bx.t.cells.1)
                have HBW := Lib.hid (fun (W : World) (k : Below x2.heap.size x2 W) => below_next HCP.out.bx.b k)
                have HEND := Lib.hid (fun (v8 : Value) (W : World) (k9 : Below x2.heap.size x2 W) (o : OwnsR' x2.heap.size W 78 6 v8 (procsV (T.list.eraseIdx k))) => And.intro ((HCP.out.below k9).lay rfl HL2.out (o.less HCP.out.bx.b.size)) (HNQ.out.below k9))
                obtain ⟨B', hB'⟩ : ∃ x, x2.heap.size = x := ⟨_, rfl⟩
                have HB2 := Lib.hid hB'
                rw [hB'] at HSB HEND HBW
                clear hB' HCP HNQ
                refine wpAnyE_take (i := 1) (v := .pointer (some ⟨g0, 0, none⟩)) rfl (by kernel_rfl) (by decide) (by kernel_rfl) (by kernel_rfl) (by kernel_rfl) (fun _ _ _ h => h) (Or.inl ⟨by rfl, by intro W hSw; obtain ⟨q0, q1, q2, q3⟩ := hSw; go_simp⟩) (by assumption) ?_
                try simp only [List.getElem_toArray, List.getElem_cons_zero, List.getElem_cons_succ, Act.put, List.setIfInBounds_toArray, List.set_cons_zero, List.set_cons_succ]
                refine wpAnyE_take (i := 2) (v := .slice (some ⟨gs, 0, none⟩) T.list.length c) rfl (by kernel_rfl) (by decide) (by kernel_rfl) (by kernel_rfl) (by kernel_rfl) (fun _ _ _ h => h) (Or.inl ⟨by rfl, by intro W hSw; obtain ⟨q0, q1, q2, q3⟩ := hSw; go_simp⟩) (by assumption) ?_
                try simp only [List.getElem_toArray, List.getElem_cons_zero, List.getElem_cons_succ, Act.put, List.setIfInBounds_toArray, List.set_cons_zero, List.set_cons_succ]
                refine wpAnyE_take (i := 3) (v := .int .i64 (k : Int)) rfl (by kernel_rfl) (by decide) (by kernel_rfl) (by kernel_rfl) (by kernel_rfl) (fun _ _ _ h => h) (Or.inl ⟨by rfl, by intro W hSw; obtain ⟨q0, q1, q2, q3⟩ := hSw; go_simp⟩) (by assumption) ?_
                try simp only [List.getElem_toArray, List.getElem_cons_zero, List.getElem_cons_succ, Act.put, List.setIfInBounds_toArray, List.set_cons_zero, List.set_cons_succ]
                refine wpAnyE_take (i := 4) (v := .slice (some ⟨gs, 0, none⟩) k c) rfl (by kernel_rfl) (by decide) (by kernel_rfl) (by kernel_rfl) (by kernel_rfl) (fun _ _ _ h => h) (Or.inl ⟨by rfl, by intro W hSw; obtain ⟨q0, q1, q2, q3⟩ := hSw; go_simp⟩) (by assumption) ?_
                try simp only [List.getElem_toArray, List.getElem_cons_zero, List.getElem_cons_succ, Act.put, List.setIfInBounds_toArray, List.set_cons_zero, List.set_cons_succ]
                refine wpAnyE_take (i := 6) (v := .pointer (some ⟨g0, 0, none⟩)) rfl (by kernel_rfl) (by decide) (by kernel_rfl) (by kernel_rfl) (by kernel_rfl) (fun _ _ _ h => h) (Or.inl ⟨by rfl, by intro W hSw; obtain ⟨q0, q1, q2, q3⟩ := hSw; go_simp⟩) (by assumption) ?_
                try simp only [List.getElem_toArray, List.getElem_cons_zero, List.getElem_cons_succ, Act.put, List.setIfInBounds_toArray, List.set_cons_zero, List.set_cons_succ]
                refine wpAnyE_take (i := 7) (v := .slice (some ⟨gs, 0, none⟩) T.list.length c) rfl (by kernel_rfl) (by decide) (by kernel_rfl) (by kernel_rfl) (by kernel_rfl) (fun _ _ _ h => h) (Or.inl ⟨by rfl, by intro W hSw; obtain ⟨q0, q1, q2, q3⟩ := hSw; go_simp⟩) (by assumption) ?_
                try simp only [List.getElem_toArray, List.getElem_cons_zero, List.getElem_cons_succ, Act.put, List.setIfInBounds_toArray, List.set_cons_zero, List.set_cons_succ]
                refine wpAnyE_take (i := 8) (v := .int .i64 (k : Int)) rfl (by kernel_rfl) (by decide) (by kernel_rfl) (by kernel_rfl) (by kernel_rfl) (fun _ _ _ h => h) (Or.inl ⟨by rfl, by intro W hSw; obtain ⟨q0, q1, q2, q3⟩ := hSw; go_simp⟩) (by assumption) ?_
                try simp only [List.getElem_toArray, List.getElem_cons_zero, List.getElem_cons_succ, Act.put, List.setIfInBounds_toArray, List.set_cons_zero, List.set_cons_succ]
                refine wpAnyE_take (i := 9) (v := .int .i64 (J : Int)) rfl (by kernel_rfl) (by decide) (by kernel_rfl) (by kernel_rfl) (by kernel_rfl) (fun _ _ _ h => h) (Or.inl ⟨by rfl, by intro W hSw; obtain ⟨q0, q1, q2, q3⟩ := hSw; go_simp⟩) (by assumption) ?_
                try simp only [List.getElem_toArray, List.getElem_cons_zero, List.getElem_cons_succ, Act.put, List.setIfInBounds_toArray, List.set_cons_zero, List.set_cons_succ]
                refine wpAnyE_take (i := 10) (v := .slice (some A) (T.list.length - J) (c - J)) rfl (by kernel_rfl) (by decide) (by kernel_rfl) (by kernel_rfl) (by kernel_rfl) (fun _ _ _ h => h) (Or.inl ⟨by rfl, by intro W hSw; obtain ⟨q0, q1, q2, q3⟩ := hSw; go_simp⟩) (by assumption) ?_
                try simp only [List.getElem_toArray, List.getElem_cons_zero, List.getElem_cons_succ, Act.put, List.setIfInBounds_toArray, List.set_cons_zero, List.set_cons_succ]
                have b2 : Below B' x2 x2 := Below.refl _ _
                have l2 : B' ≤ x2.heap.size := Nat.le_of_eq HB2.out.symm
                clear hs1 hs2
                refine wpAnyE_ready (rs := [0]) (by kernel_rfl) (by simp) ?_
                refine AllE.cons rfl (fun K hK => ?_) AllE.nil
                obtain ⟨x3, hx3'⟩ : ∃ x, x2.alloc (.cells #[] 78) = x := ⟨_, rfl⟩
                obtain ⟨gA, hgA⟩ : ∃ x, x2.heap.size = x := ⟨_, rfl⟩
                have b3 : Below B' x2 x3 := by rw [← hx3']; exact b2.alloc l2 _
                have l3 : B' ≤ x3.heap.size := by rw [← hx3']; simp; omega
                have O3 : Hid (OwnsR' B' x3 78 6 (.slice (some ⟨gA, 0, none⟩) 0 0) []) := Lib.hid (by rw [← hx3', ← hgA]; exact OwnsR'.new (by simp) l2 (by unfold maxLen; simp) rfl)
                go_simp
                refine hK.out _ _ (HSB.out _ b3) (fun hHeld3 => ?_)
                clear hK K
                try simp only [List.getElem_toArray, List.getElem_cons_zero, List.getElem_cons_succ, Act.put, List.setIfInBounds_toArray, List.set_cons_zero, List.set_cons_succ]
                refine wpAnyE_ready (rs := [5]) (by kernel_rfl) (by simp) ?_
                refine AllE.cons rfl (fun K hK => ?_) AllE.nil
                rw [if_pos (by rfl)]
                refine wp_append_rows' _ _ 26 rfl B' 78 _ 6 48 Try.underlying26 info_rproc rfl (by decide) _ [] (by rfl) O3.out (some ⟨gs, 0, none⟩) c (procsV (T.list.take k)) (by rw [procsV_length]; rw [List.length_take, Nat.min_eq_left (by omega)]; rfl) (HRT.out _ (HBW.out _ b3)) (procsV_one _) (by simp only [procsV_length, List.length_nil, List.length_take, List.length_drop]; omega) (by simp only [procsV_length, List.length_nil, List.length_take, List.length_drop]; unfold maxLen; omega) l3 ?_
                intro v4 x4 o4 G4
                have b4 : Below B' x2 x4 := b3.grown G4 l3 (fun j hj => (O3.out.lt j hj).1)
                have l4 : B' ≤ x4.heap.size := Nat.le_trans l3 G4.size
                have O4 := Lib.hid o4
                clear o4 G4
                refine hK.out _ _ (HSB.out _ b4) (fun hHeld4 => ?_)
                clear hK K
                try simp only [List.getElem_toArray, List.getElem_cons_zero, List.getElem_cons_succ, Act.put, List.setIfInBounds_toArray, List.set_cons_zero, List.set_cons_succ]
                rw [List.nil_append] at O4
                refine wpAnyE_ready (rs := [11]) (by kernel_rfl) (by simp) ?_
                refine AllE.cons rfl (fun K hK => ?_) AllE.nil
                rw [if_pos (by rfl)]
                refine wp_append_rows' _ _ 26 rfl B' 78 _ 6 48 Try.underlying26 info_rproc rfl (by decide) _ (procsV (T.list.take k)) (by rfl) O4.out (some A) (c - J) (procsV (T.list.drop J)) (by rw [procsV_length]; rw [List.length_drop]; rfl) (HRDP.out _ (HBW.out _ b4)) (procsV_one _) (by simp only [procsV_length, List.length_nil, List.length_take, List.length_drop]; omega) (by simp only [procsV_length, List.length_nil, List.length_take, List.length_drop]; unfold maxLen; omega) l4 ?_
                intro v5 x5 o5 G5
                have b5 : Below B' x2 x5 := b4.grown G5 l4 (fun j hj => (O4.out.lt j hj).1)
                have l5 : B' ≤ x5.heap.size := Nat.le_trans l4 G5.size
                have O5 := Lib.hid o5
                clear o5 G5
                refine hK.out _ _ (HSB.out _ b5) (fun hHeld5 => ?_)
                clear hK K
                try simp only [List.getElem_toArray, List.getElem_cons_zero, List.getElem_cons_succ, Act.put, List.setIfInBounds_toArray, List.set_cons_zero, List.set_cons_succ]
                have o9 := O5.out
                rw [HER.out] at o9
                obtain ⟨⟨gN, cN, x9, rfl, hx9, ⟨s0, s1⟩, HFIN⟩, hnq⟩ := HEND.out v5 x5 b5 o9
                have HQ9 : Hid (BoxQ x9 gp ⟨u0, u1, u2, u3, u4, u5⟩) := Lib.hid (by rw [← hx9]; exact hnq.kept (grown_setCellT _ _ _) (by intro e; have e9 : gp = g0 := Option.some.inj e; have := HG9.out; omega))
                clear hnq o9
                refine wpAnyE_take (i := 12) (v := .pointer (some ⟨g0, 0, none⟩)) rfl (by kernel_rfl) (by decide) (by kernel_rfl) (by kernel_rfl) (by kernel_rfl) (fun _ _ _ h => h) (Or.inl ⟨by rfl, by intro W hSw; obtain ⟨q0, q1, q2, q3⟩ := hSw; go_simp⟩) (by assumption) ?_
                try simp only [List.getElem_toArray, List.getElem_cons_zero, List.getElem_cons_succ, Act.put, List.setIfInBounds_toArray, List.set_cons_zero, List.set_cons_succ]
                refine wpAnyE_ready (rs := [13]) (by kernel_rfl) (by simp) ?_
                refine AllE.last rfl (fun K hK => ?_)
                go_simp
                refine hK.out _ _ ?_
                clear hK K
                try simp only [List.getElem_toArray, List.getElem_cons_zero, List.getElem_cons_succ, Act.put, List.setIfInBounds_toArray, List.set_cons_zero, List.set_cons_succ]
                refine wpAnyE_done (by kernel_rfl) ?_ _
                go_wp2_with fail
                go_meet
                exact ⟨gN, cN, HFIN, HQ9⟩
              case rest =>
                obtain ⟨gN, cN, HZ, HNQ2⟩ := hcut
                have HD := Lib.hid (And.intro (HZ.out.1.below (below_drew wc)) (And.intro (HZ.out.2.below (below_drew wc)) (HNQ2.out.below (below_drew wc))))
                clear HZ HNQ2 hs1 hs2
                go_upto_region 12 with fail
                refine wp_region_held_drew (S := fun W => W.cell? ⟨g0, 0, none⟩ = some (.slice (some ⟨gN, 0, none⟩) (T.list.eraseIdx k).length cN) ∧ W.cell? ⟨g0, 1, none⟩ = some (.int .i64 T.most) ∧ W.cell? ⟨g0, 2, none⟩ = some (.int .i64 T.last) ∧ W.cell? ⟨g0, 3, none⟩ = some (.int .i64 T.now) ∧ W.cell? ⟨gp, 0, none⟩ = some (.int .i64 u0) ∧ W.cell? ⟨gp, 3, none⟩ = some (.int .i64 u3)) (by kernel_rfl) ⟨HD.out.1.t.cells.1.1, HD.out.1.t.cells.1.2.1, HD.out.1.t.cells.1.2.2.1, HD.out.1.t.cells.1.2.2.2, HD.out.2.2.cells.1.1, HD.out.2.2.cells.1.2.2.2.1⟩ (fun hHeld => ?_)
                generalize wc.drew = x2 at *
                obtain ⟨⟨r0, r1, r2, r3⟩, rf, W', hW', HF⟩ := HD.out.1.fin (.slice (some ⟨gN, 0, none⟩) (T.list.eraseIdx k).length cN) T.most T.last T.now
                have ht9 := HD.out.1.t.kept HF.out.2.2 (by intro e; have e9 : g0 = g1 := Option.some.inj e; have := HD.out.1.g; omega)
                have hq9 := HD.out.2.2.kept HF.out.2.2 (by intro e; have e9 : gp = g1 := Option.some.inj e; have := HG9.out; omega)
                have HSW := Lib.hid (And.intro ht9.cells.1.1 (And.intro ht9.cells.1.2.1 (And.intro ht9.cells.1.2.2.1 (And.intro ht9.cells.1.2.2.2 (And.intro hq9.cells.1.1 hq9.cells.1.2.2.2.1)))))
                clear ht9 hq9
                refine wpAnyH_take (i := 0) (v := .agg #[.slice (some ⟨gN, 0, none⟩) (T.list.eraseIdx k).length cN, .int .i64 T.most, .int .i64 T.last, .int .i64 T.now]) rfl (by kernel_rfl) (by kernel_rfl) (by kernel_rfl) (fun _ _ _ h => h) (Or.inl ⟨by rfl, by intro W hSw; obtain ⟨q0, q1, q2, q3, p0, p3⟩ := hSw; go_simp⟩) (by assumption) ?_
                try simp only [List.getElem_toArray, List.getElem_cons_zero, List.getElem_cons_succ, Act.put, List.setIfInBounds_toArray, List.set_cons_zero, List.set_cons_succ]
                refine wpAnyH_take (i := 1) (v := .pointer (some ⟨gp, 0, none⟩)) rfl (by kernel_rfl) (by kernel_rfl) (by kernel_rfl) (fun _ _ _ h => h) (Or.inl ⟨by rfl, by intro W hSw; obtain ⟨q0, q1, q2, q3, p0, p3⟩ := hSw; go_simp⟩) (by assumption) ?_
                try simp only [List.getElem_toArray, List.getElem_cons_zero, List.getElem_cons_succ, Act.put, List.setIfInBounds_toArray, List.set_cons_zero, List.set_cons_succ]
                refine wpAnyH_take (i := 2) (v := .int .i64 u0) rfl (by kernel_rfl) (by kernel_rfl) (by kernel_rfl) (fun _ _ _ h => h) (Or.inl ⟨by rfl, by intro W hSw; obtain ⟨q0, q1, q2, q3, p0, p3⟩ := hSw; go_simp⟩) (by assumption) ?_
                try simp only [List.getElem_toArray, List.getElem_cons_zero, List.getElem_cons_succ, Act.put, List.setIfInBounds_toArray, List.set_cons_zero, List.set_cons_succ]
                refine wpAnyH_take (i := 3) (v := .pointer (some ⟨gp, 3, none⟩)) rfl (by kernel_rfl) (by kernel_rfl) (by kernel_rfl) (fun _ _ _ h => h) (Or.inl ⟨by rfl, by intro W hSw; obtain ⟨q0, q1, q2, q3, p0, p3⟩ := hSw; go_simp⟩) (by assumption) ?_
                try simp only [List.getElem_toArray, List.getElem_cons_zero, List.getElem_cons_succ, Act.put, List.setIfInBounds_toArray, List.set_cons_zero, List.set_cons_succ]
                refine wpAnyH_take (i := 4) (v := .int .i64 u3) rfl (by kernel_rfl) (by kernel_rfl) (by kernel_rfl) (fun _ _ _ h => h) (Or.inl ⟨by rfl, by intro W hSw; obtain ⟨q0, q1, q2, q3, p0, p3⟩ := hSw; go_simp⟩) (by assumption) ?_
                try simp only [List.getElem_toArray, List.getElem_cons_zero, List.getElem_cons_succ, Act.put, List.setIfInBounds_toArray, List.set_cons_zero, List.set_cons_succ]
                refine wpAnyH_ready (rs := [5]) (by kernel_rfl) (by simp) ?_
                refine AllReadyH.cons rfl (fun K hK => ?_) AllReadyH.nil
                go_simp
                refine hK.out _ _ HSW.out (fun hHeld2 => ?_)
                clear hK K hHeld
                try simp only [List.getElem_toArray, List.getElem_cons_zero, List.getElem_cons_succ, Act.put, List.setIfInBounds_toArray, List.set_cons_zero, List.set_cons_succ]
                refine wpAnyH_take (i := 6) (v := .int .i64 u0) rfl (by kernel_rfl) (by kernel_rfl) (by kernel_rfl) (fun _ _ _ h => h) (Or.inl ⟨by rfl, by intro W hSw; obtain ⟨q0, q1, q2, q3, p0, p3⟩ := hSw; go_simp⟩) (by assumption) ?_
                try simp only [List.getElem_toArray, List.getElem_cons_zero, List.getElem_cons_succ, Act.put, List.setIfInBounds_toArray, List.set_cons_zero, List.set_cons_succ]
                refine wpAnyH_take (i := 7) (v := .int .i64 u3) rfl (by kernel_rfl) (by kernel_rfl) (by kernel_rfl) (fun _ _ _ h => h) (Or.inl ⟨by rfl, by intro W hSw; obtain ⟨q0, q1, q2, q3, p0, p3⟩ := hSw; go_simp⟩) (by assumption) ?_
                try simp only [List.getElem_toArray, List.getElem_cons_zero, List.getElem_cons_succ, Act.put, List.setIfInBounds_toArray, List.set_cons_zero, List.set_cons_succ]
                refine wpAnyH_take (i := 8) (v := .int .i64 0) rfl (by kernel_rfl) (by kernel_rfl) (by kernel_rfl) (fun _ _ _ h => h) (Or.inl ⟨by rfl, by intro W hSw; obtain ⟨q0, q1, q2, q3, p0, p3⟩ := hSw; go_simp⟩) (by assumption) ?_
                try simp only [List.getElem_toArray, List.getElem_cons_zero, List.getElem_cons_succ, Act.put, List.setIfInBounds_toArray, List.set_cons_zero, List.set_cons_succ]
                refine wpAnyH_done (by kernel_rfl) ?_ _
                go_wp2_with fail
                refine bodyPost_ret (results_rt4 rfl _ _ g1 rfl HF.out.1) rfl ?_
                rw [HRE.out]
                refine ⟨_, rfl, ⟨some ⟨gN, 0, none⟩, cN, rfl, ?_, HOKR.out⟩, HF.out.2.1⟩
                exact (HD.out.2.1.less hB).kept HF.out.2.2 (.inr (by intro e; have e9 : gN = g1 := Option.some.inj e; have h9 := HD.out.2.1.apartT HD.out.1.r (by decide); exact h9 (by rw [e9]; rfl)))
            · have hq2 : (u2 == 3) = false := by simpa using hs
              have HNX := Lib.hid ((placesL_no HROW.out (by rw [hzb, decide_eq_false hs]; rfl)).trans HO.out)
              clear hs hp hzb
              go_wp2
              have h9 := HLT.out
              go_roundw
              case rel => exact ⟨k + 1, HLT.out, by go_num, HNX, Lib.hid (below_next HB.out (below_box _ _))⟩
              case measure => simp [intOf]; omega
          · have hq1 : (u1 == n) = false := by simpa using hp
            have HNX := Lib.hid ((placesL_no HROW.out (by rw [hzb, decide_eq_false hp, Bool.and_false])).trans HO.out)
            clear hp hzb
            go_wp2
            have h9 := HLT.out
            go_roundw
            case rel => exact ⟨k + 1, HLT.out, by go_num, HNX, Lib.hid (below_next HB.out (below_box _ _))⟩
            case measure => simp [intOf]; omega
        · obtain rfl : k = T.list.length := by omega
          have hx2 : ¬ (T.list.length : Int) < (T.list.length : Int) := by omega
          have HRE : Hid (r = (T, 0, 0, 15)) := Lib.hid (by rw [← HRR.out, if_pos (show firstI (zombieB n) T.list = -1 by unfold firstI; rw [HO.out])])
          clear hlt hk
          obtain ⟨⟨r0, r1, r2, r3⟩, rf, W', hW', HF⟩ := HPR.out.fin (.slice (some ⟨gs, 0, none⟩) T.list.length c) T.most T.last T.now
          go_wp2
          refine bodyPost_ret (results_rt4 rfl _ _ g1 rfl HF.out.1) rfl ?_
          rw [HRE.out]
          exact ⟨_, rfl, H.out.below HF.out.2.1, HF.out.2.1⟩
end Go.Proofs.Ytnengblmcfiajaa
