/- The law UsagePlays is true for every input: what segments are filled with is told just as the document says, call by call. No condition. -/
import Derived.Test.YtnlbjpnhepdicaaDo9c
import Derived.Test.YtnlbjpnhepdicaaOpenAct
import Derived.Test.YtnlbjpnhepdicaaIs9
import Derived.Test.YtnlbjpnhepdicaaAwake9
import Derived.Lib.MinMax
import Derived.Deep.DeepCutAuto
import Derived.Deep.RegionWith
namespace Go.Proofs.Ytnlbjpnhepdicaa
open Go.ChangeShapes Go.WideShapes Go.ChangeAt Go.RowKit Go.Sort
set_option linter.unusedVariables false
set_option linter.unusedSimpArgs false
set_option maxRecDepth 100000

theorem do_any {B : Nat} {w : World} {g gs : Nat} {room : Int} {us : List UseD} (h : IsTab B w g gs room us) {gd cd n : Nat} (hn : us.length = n) (hd : OwnsR' B w 46 3 (.slice (some ⟨gd, 0, none⟩) n cd) (usesV us)) (hB : B ≤ w.heap.size) (x : ActD) (ht0 : 0 ≤ x.time) (ht1 : x.time < 4294967296) :
    Calls Try.prog 28 #[.pointer (some ⟨g, 0, none⟩), .agg #[.int .i64 room, .slice (some ⟨gd, 0, none⟩) n cd], .agg #[.int .i64 x.kind, .int .i64 x.seg, .int .i64 x.n, .int .u32 x.time]] w (DoPost B w g gs room n) := by
  by_cases k0 : x.kind = 0
  · exact do_count h hn hd hB x k0 ht0 ht1
  · by_cases k1 : x.kind = 1
    · exact do_touch h hn hd hB x k1 ht0 ht1
    · by_cases k2 : x.kind = 2
      · exact do_set h hn hd hB x k2 ht0 ht1
      · by_cases k3 : x.kind = 3
        · exact do_rel h hn hd hB x k3 ht0 ht1
        · exact do_order h hn hd hB x (by simpa using k0) (by simpa using k1) (by simpa using k2) (by simpa using k3) ht0 ht1
set_option maxHeartbeats 4000000 in
theorem usagePlays_walk (segs room : Int) (a : Option Addr) (cap : Nat) (l : List ActD) (w : World) (hs : I64 segs) (hroom : I64 room) (hr : ReadsR w a 4 (actsV l)) (hcap : l.length ≤ cap) (hfit : ∀ x ∈ l, ActFits x) :
    Calls Try.prog 5 #[.int .i64 segs, .int .i64 room, .slice a l.length cap] w fun e w' => e = .returned (.bool true) ∧ Below w.heap.size w w' := by
  have HRM := Lib.hid hroom
  have HR := Lib.hid hr
  have HFIT := Lib.hid hfit
  obtain ⟨L, hL⟩ : ∃ L, l.length = L := ⟨_, rfl⟩
  have HL := Lib.hid hL
  rw [hL] at hcap ⊢
  obtain ⟨s, hs'⟩ : ∃ s, max (-3) (min segs 30) = s := ⟨_, rfl⟩
  have HSI : Hid (I64 s) := Lib.hid (by rw [← hs']; unfold I64 at hs ⊢; omega)
  obtain ⟨m, hm⟩ : ∃ m : Nat, clampI 200 s = m := ⟨(clampI 200 s).toNat, by have := clampI_of (most := 200) (n := s) (by decide); omega⟩
  have hm1 : 1 ≤ m ∧ m ≤ 200 := by have := clampI_of (most := 200) (n := s) (by decide); omega
  have HM := Lib.hid hm
  have HM1 := Lib.hid hm1
  have hlr : (List.replicate m zeroU).length = m := List.length_replicate
  have HLR := Lib.hid hlr
  clear hroom hr hfit hL hs hm hm1 hlr
  go_enter Try.func5, Try.ntmps5
  go_wp2_with fail
  refine (awake9_true w).mono ?_
  rintro e w1 ⟨rfl, b1⟩
  have B1 := Lib.hid b1
  have HS1 := Lib.hid b1.size
  clear b1
  go_wp2_with fail
  refine (tnew_is s room w1 HSI.out HRM.out m HM.out).mono ?_
  rintro e w2 ⟨g, gs, rfl, t2, b2⟩
  have T2 := Lib.hid t2
  have B2 := Lib.hid (below_next B1.out b2)
  have HS2 := Lib.hid b2.size
  clear t2 b2
  go_wp2_with fail
  refine (rnew_is s room w2 m HM.out).mono ?_
  rintro e w3 ⟨gd, rfl, o3, b3⟩
  rw [HLR.out] at o3 ⊢
  obtain ⟨R, hR⟩ : ∃ R, clampI 4096 room = R := ⟨_, rfl⟩
  rw [hR] at T2 ⊢
  have hbx := below_box w3 (.cells #[.int .i64 R, .slice (some ⟨gd, 0, none⟩) m m] 59)
  have T4 := Lib.hid ((T2.out.below b3).below hbx)
  have O4 := Lib.hid (((o3.less (B' := w1.heap.size) HS2.out)).below hbx)
  have B4 := Lib.hid (below_next (below_next B2.out b3) hbx)
  have Z4 : Hid (BoxP (w3.alloc (.cells #[.int .i64 R, .slice (some ⟨gd, 0, none⟩) m m] 59)) w3.heap.size R (.slice (some ⟨gd, 0, none⟩) m m)) := Lib.hid (heap_alloc_new w3 _)
  obtain ⟨p8, hp8⟩ : ∃ p8, w3.heap.size = p8 := ⟨_, rfl⟩
  have HP8 : Hid (w1.heap.size ≤ p8) := Lib.hid (by rw [← hp8]; have := b3.size; have := HS2.out; omega)
  have HIS : Hid (∀ (W : World) (us : List UseD) (gk ck : Nat), us.length = m → IsTab w1.heap.size W g gs R us → OwnsR' w1.heap.size W 46 3 (.slice (some ⟨gk, 0, none⟩) m ck) (usesV us) → Calls Try.prog 27 #[.pointer (some ⟨g, 0, none⟩), .agg #[.int .i64 R, .slice (some ⟨gk, 0, none⟩) m ck]] W fun e w' => e = .returned (.bool true) ∧ Below W.heap.size W w') := by
    intro W us gk ck hl hT hO
    have h1 := is_true hT R (some ⟨gk, 0, none⟩) ck (use_reads hO)
    rw [hl] at h1
    exact h1
  clear hbx o3 b3 T2 B2 B1 hR
  go_wp2_with fail
  refine (HIS.out _ _ gd m HLR.out T4.out O4.out).mono ?_
  rintro e w5 ⟨rfl, b5⟩
  have T5 := Lib.hid (T4.out.below b5)
  have O5 := Lib.hid (O4.out.below b5)
  have B5 := Lib.hid (below_next B4.out b5)
  have Z5 := Lib.hid (Z4.out.below b5)
  rw [hp8] at Z5
  have HLR2 := HLR
  clear b5 T4 O4 B4 Z4 hp8
  go_wp2
  go_loopw [9] (fun x9 wr => ∃ (k : Nat) (us : List UseD) (gk ck : Nat), k ≤ L ∧ k ≤ 40 ∧ x9 = .int .i64 k ∧ Hid (us.length = m) ∧ Hid (IsTab w1.heap.size wr g gs R us) ∧ Hid (OwnsR' w1.heap.size wr 46 3 (.slice (some ⟨gk, 0, none⟩) m ck) (usesV us)) ∧ Hid (BoxP wr p8 R (.slice (some ⟨gk, 0, none⟩) m ck)) ∧ Hid (Below w.heap.size w wr)) (fun i _ => 40 - (intOf i).toNat)
  case atStart => exact ⟨0, _, gd, m, Nat.zero_le _, by decide, rfl, HLR, T5, O5, Z5, B5⟩
  case round =>
    obtain ⟨k, us, gk, ck, hk1, hk2, rfl, HLU, HT, HO, HZ, HB⟩ := hrel
    clear T5 O5 Z5 B5 HLR2
    by_cases hlt : k < L
    · by_cases h40 : k < 40
      · obtain ⟨x, hrow⟩ : ∃ x, l[k]? = some x := ⟨_, List.getElem?_eq_getElem (by rw [HL.out]; exact hlt)⟩
        obtain ⟨_, _, _, ht0, ht1⟩ := HFIT.out x (List.mem_of_getElem? hrow)
        obtain ⟨b, off, rfl, hb, hc⟩ := (HR.out.below HB.out).row (actsV_get hrow)
        have d0 : wr.cell? ⟨b, off + k * 4, none⟩ = some (.int .i64 x.kind) := hc 0 _ rfl
        have d1 : wr.cell? ⟨b, off + k * 4 + 1, none⟩ = some (.int .i64 x.seg) := by have := hc 1 _ rfl; rwa [← Nat.add_assoc] at this
        have d2 : wr.cell? ⟨b, off + k * 4 + 2, none⟩ = some (.int .i64 x.n) := by have := hc 2 _ rfl; rwa [← Nat.add_assoc] at this
        have d3 : wr.cell? ⟨b, off + k * 4 + 3, none⟩ = some (.int .u32 x.time) := by have := hc 3 _ rfl; rwa [← Nat.add_assoc] at this
        obtain ⟨j0, j1, _, hp8, _⟩ := HZ.out.cells
        obtain ⟨hg1, hg2⟩ := tab_lt HT.out
        have hgB : w1.heap.size ≤ gs := (HT.out.2.1.lt gs rfl).1
        have hx1 : (0 : Int) ≤ (k : Int) := by omega
        have hx2 : (k : Int) < (L : Int) := by omega
        have hx3 : (k : Int) < 40 := by omega
        have hB1 : w1.heap.size ≤ wr.heap.size := by omega
        have hne8 : p8 ≠ gs := by
          intro e
          exact (HT.out.2.1.apart (g := p8) HZ.out (by decide)) (by rw [e]; rfl)
        have hne8g : g ≠ p8 := by
          intro e
          have h1 := HT.out.1
          have h2 : wr.heap[p8]? = _ := HZ.out
          rw [e, h2] at h1
          simp at h1
        have HDO := Lib.hid (fun (W : World) (hW : Below wr.heap.size wr W) => do_any (HT.out.below hW) HLU.out (HO.out.below hW) (Nat.le_trans hB1 hW.size) x ht0 ht1)
        have hbx := below_box wr (.cells #[.int .i64 0, .slice none 0 0] 59)
        have HX10 : Hid (BoxP (wr.alloc (.cells #[.int .i64 0, .slice none 0 0] 59)) wr.heap.size 0 (.slice none 0 0)) := Lib.hid (heap_alloc_new wr _)
        have HZ10 := Lib.hid (HZ.out.below hbx)
        have HZW := Lib.hid (fun (W : World) (hW : Below wr.heap.size wr W) => HZ.out.below hW)
        have e0 := (hbx.cell (p := ⟨b, off + k * 4, none⟩) hb).trans d0
        have e1 := (hbx.cell (p := ⟨b, off + k * 4 + 1, none⟩) hb).trans d1
        have e2 := (hbx.cell (p := ⟨b, off + k * 4 + 2, none⟩) hb).trans d2
        have e3 := (hbx.cell (p := ⟨b, off + k * 4 + 3, none⟩) hb).trans d3
        obtain ⟨i0, i1, _, _, _⟩ := HZ10.out.cells
        have HNE := Lib.hid (And.intro hne8 (And.intro hne8g (And.intro hg2 (And.intro hgB hp8))))
        clear hc hrow hb hbx hne8 hne8g hg1 hg2 hgB hp8 hB1 ht0 ht1 h40 hlt
        go_upto_region 10 with fail
        go_cut [10, 11] (fun v10 v11 wc => ∃ (us' : List UseD) (g' c' p10 : Nat), v10 = .pointer (some ⟨p10, 0, none⟩) ∧ v11 = .bool true ∧ Hid (us'.length = m) ∧ Hid (IsTab w1.heap.size wc g gs R us') ∧ Hid (OwnsR' w1.heap.size wc 46 3 (.slice (some ⟨g', 0, none⟩) m c') (usesV us')) ∧ Hid (BoxP wc p10 R (.slice (some ⟨g', 0, none⟩) m c')) ∧ Hid (BoxP wc p8 R (.slice (some ⟨gk, 0, none⟩) m ck)) ∧ Hid (Below w.heap.size w wc))
        case first =>
          go_region_with ((go_at_call 28; (with_reducible refine (HDO.out _ (by first | exact below_drew _ | exact below_box _ _ | exact below_next (below_box _ _) (below_drew _) | exact below_next (below_drew _) (below_box _ _))).mono ?_); rintro e wi ⟨us', g', c', hl', rfl, hT', hO', hG'⟩; have hz8 : BoxP wi p8 R (.slice (some ⟨gk, 0, none⟩) m ck) := BoxP.kept (HZW.out _ (by first | exact below_drew _ | exact below_box _ _ | exact below_next (below_box _ _) (below_drew _) | exact below_next (below_drew _) (below_box _ _))) hG' (by intro e; have e9 : p8 = gs := Option.some.inj e; exact HNE.out.1 e9); have hbw : Below w.heap.size w wi := (HB.out.trans (Below.mono (by first | exact below_drew _ | exact below_box _ _ | exact below_next (below_box _ _) (below_drew _) | exact below_next (below_drew _) (below_box _ _)) HB.out.size)).grown hG' (by have h5 := HB.out.size; simp; omega) (by intro j hj; have e9 : gs = j := Option.some.inj hj; have h5 := HNE.out.2.2.2.1; have h6 := HS1.out; omega); have hga : g < wi.heap.size ∧ gs < wi.heap.size := tab_lt hT'; try (have hx : BoxP wi wr.heap.size 0 (.slice none 0 0) := BoxP.kept (by exact HX10.out) hG' (by intro e; have e9 : wr.heap.size = gs := Option.some.inj e; have := HNE.out; omega); obtain ⟨⟨m0, m1, mf0, mf1⟩, ⟨n0, n1, nf1⟩, ⟨p0, p1⟩, hgf⟩ := fin_facts hx R (.slice (some ⟨g', 0, none⟩) m c'); have hx2 : BoxP _ wr.heap.size R (.slice (some ⟨g', 0, none⟩) m c') := (hx.set0 R).set (.slice (some ⟨g', 0, none⟩) m c'); have hgn : g' ≠ wr.heap.size := (by intro e; exact (hO'.apart (g := wr.heap.size) hx (by decide)) (by rw [← e]; rfl)))))
          all_goals (go_wp2_with fail)
          all_goals go_meet
          all_goals first
            | (exact ⟨us', g', c', wi.heap.size, rfl, rfl, Lib.hid hl', Lib.hid (hT'.below (below_box wi _)), Lib.hid (hO'.below (below_box wi _)), Lib.hid (heap_alloc_new wi _), Lib.hid (hz8.below (below_box wi _)), Lib.hid (below_next hbw (below_box wi _))⟩)
            | (exact ⟨us', g', c', wr.heap.size, rfl, rfl, Lib.hid hl', Lib.hid (tab_keptP hT' hgf (by have := (tab_lt HT.out).1; omega) (by have := HNE.out; omega)), Lib.hid (hO'.kept hgf (.inr (by intro e; have e9 : g' = wr.heap.size := Option.some.inj e; exact hgn e9))), Lib.hid hx2, Lib.hid (hz8.kept hgf (by intro e; have e9 : p8 = wr.heap.size := Option.some.inj e; have := HNE.out; omega)), Lib.hid (hbw.grown hgf hbw.size (by intro j hj; have e9 : wr.heap.size = j := Option.some.inj hj; have := HB.out.size; omega))⟩)
        case rest =>
          obtain ⟨us', g', c', p10, rfl, rfl, HLU', HT', HO', HX, HZ', HB'⟩ := hcut
          clear d0 d1 d2 d3 j0 j1 e0 e1 e2 e3 i0 i1
          obtain ⟨x0, x1, _, _, _⟩ := HX.out.cells
          have hne := HNE.out
          obtain ⟨⟨m0, m1, mf0, mf1⟩, ⟨n0, n1, nf1⟩, ⟨p0, p1⟩, hgf⟩ := fin_facts HZ'.out R (.slice (some ⟨g', 0, none⟩) m c')
          have hgn : g' ≠ p8 := by intro e; exact (HO'.out.apart (g := p8) HZ'.out (by decide)) (by rw [← e]; rfl)
          have FT := Lib.hid (tab_keptP HT'.out hgf hne.2.1 (fun e => hne.1 e.symm))
          have FO := Lib.hid (HO'.out.kept hgf (.inr (by intro e; have e9 : g' = p8 := Option.some.inj e; exact hgn e9)))
          have FZ : Hid (BoxP _ p8 R (.slice (some ⟨g', 0, none⟩) m c')) := Lib.hid ((HZ'.out.set0 R).set (.slice (some ⟨g', 0, none⟩) m c'))
          have FB := Lib.hid (HB'.out.grown hgf HB'.out.size (by intro j hj; have e9 : p8 = j := Option.some.inj hj; have h5 := HP8.out; have h6 := HS1.out; omega))
          clear hgf hgn hne
          go_wp2_with fail
          refine (HIS.out _ us' g' c' HLU'.out FT.out FO.out).mono ?_
          rintro e w7 ⟨rfl, b7⟩
          have GT := Lib.hid (FT.out.below b7)
          have GO := Lib.hid (FO.out.below b7)
          have GZ := Lib.hid (FZ.out.below b7)
          have GB := Lib.hid (below_next FB.out b7)
          clear b7 m0 m1 mf0 mf1 n0 n1 nf1 p0 p1 x0 x1
          go_wp2
          go_roundw
          case rel => exact ⟨k + 1, us', g', c', by omega, by omega, by go_num, HLU', GT, GO, GZ, GB⟩
          case measure => simp [intOf]; omega
      · have hx1 : ¬ (k : Int) < 40 := by omega
        have hx2 : (k : Int) < (L : Int) := by omega
        go_wp2
        go_ret
        exact ⟨rfl, HB.out⟩
    · have hx2 : ¬ (k : Int) < (L : Int) := by omega
      go_wp2
      go_ret
      exact ⟨rfl, HB.out⟩
set_option maxRecDepth 100000 in
theorem usagePlays_lifted (os : Os) (started : os.Started) (H : Type) (enc : TypeId × Value → H) :
    ReturnsInHanded {} Try.checked os 5 .any (Rows.usagePlaysSpec.pre6 enc Try.prog Try.f5 Rows.usagePlaysRow.domain false) (Rows.usagePlaysSpec.post enc Try.prog Try.f5 false true false false) :=
  law_lifted (s := Rows.usagePlaysSpec) started Try.func5 (by kernel_rfl) rfl (fun ds hd => by
        match ds, hd with
        | [_, _, _], _ => rfl) rfl
      (of_decide_eq_true (by kernel_rfl))
      (ChangeSpec.witness6 (enc := enc) (C := Try.checked) false ⟨#[], #[.int .i64 0, .int .i64 0, .slice none 0 0], []⟩ 8 (by kernel_rfl) (by kernel_rfl) (by kernel_rfl) (by kernel_rfl))
      (fun W base args ds ps hval hA hsz => by
        rw [Try.params5] at hA hval hsz
        obtain ⟨v0, vs0, d0, ds0, p0, q0, hargs, rfl, rfl, h0, r0⟩ := trodAll_cons hA
        obtain ⟨v1, vs1, d1, ds1, p1, q1, rfl, rfl, rfl, h1, r1⟩ := trodAll_cons r0
        obtain ⟨v2, vs2, d2, ds2, p2, q2, rfl, rfl, rfl, h2, r2⟩ := trodAll_cons r1
        obtain ⟨rfl, rfl, rfl⟩ := trodAll_nil r2
        obtain rfl : args = #[v0, v1, v2] := by cases args; simp_all
        simp only [DataW.weightsEach, List.all_append, Bool.and_eq_true] at hsz
        obtain ⟨z0, z1, z2, _⟩ := hsz
        obtain ⟨segs, rfl, rfl, rfl, wf0⟩ := open_int Try.underlying3 (hval 0 3 v0 rfl rfl) h0
        obtain ⟨room, rfl, rfl, rfl, wf1⟩ := open_int Try.underlying3 (hval 1 3 v1 rfl rfl) h1
        obtain ⟨a, cap, l, rfl, hr, hcap, hfit⟩ := open_acts (hval 2 55 v2 rfl rfl) h2
        exact usagePlays_walk segs room a cap l W (i64_of_wf wf0) (i64_of_wf wf1) hr hcap hfit)

theorem usagePlays_holds : Rows.UsagePlaysSaid :=
  OpenClaim.holds_of_wide 5 Try.f5 rfl rfl rfl rfl rfl rfl rfl ⟨rfl, rfl, rfl, rfl, rfl⟩ rfl rfl rfl rfl rfl (by kernel_rfl) Try.func5 (by kernel_rfl)
    (of_decide_eq_true (by kernel_rfl)) (by unfold Func.isWrapper; first | (rw [if_pos (by decide +kernel)]; kernel_rfl) | (rw [if_neg (by decide +kernel)]; exact ⟨rfl, rfl⟩))
    (fun os started H enc _ => usagePlays_lifted os started H enc)
#print axioms usagePlays_holds
end Go.Proofs.Ytnlbjpnhepdicaa
