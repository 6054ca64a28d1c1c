/- PipeOrders' walk. -/
import Derived.Test.YthainmbapikjiaaPipe7
import Derived.Test.YthainmbapikjiaaOpenAct21
import Derived.Deep.DeepCutAuto
import Derived.Deep.CutBlock
import Derived.Lib.MinMax
namespace Go.Proofs.Ythainmbapikjiaa
open Go.RowKit Go.Sort
set_option linter.unusedVariables false
set_option linter.unusedSimpArgs false
set_option maxRecDepth 100000

theorem Reads.grownP {w w' : World} {a : Option Addr} {n : Nat} {l : List Nat} {gs : Nat} (h : Reads w a n l) (hg : w.grownBy w' (some gs)) (hne : l ≠ [] → ∀ x, a = some x → x.block ≠ gs) : Reads w' a n l := by
  obtain ⟨h1, h2, h3 | ⟨b, off, rfl, hb, hc⟩⟩ := h
  · exact ⟨h1, h2, .inl h3⟩
  · by_cases hl : l = []
    · exact ⟨h1, h2, .inl hl⟩
    · refine ⟨h1, h2, .inr ⟨b, off, rfl, Nat.lt_of_lt_of_le hb hg.size, fun i hi => ?_⟩⟩
      exact (World.cell?_of_block (a := ⟨b, off + i, none⟩) (hg.block b hb (fun e => hne hl _ rfl (Option.some.inj e)))).trans (hc i hi)
theorem wrK_facts {s : PipeD} (hr : s.readers = 1) (hc : s.count ≤ 64) (n : Nat) : ∃ (k : Nat) (er : Int), wrK s n = (k, er) ∧ k ≤ n ∧ (er = 0 ∨ (er = 15 ∧ k = 0 ∧ s.count = 64)) := by
  unfold wrK
  rw [hr]
  by_cases h0 : n = 0
  · exact ⟨0, 0, by rw [if_pos h0], by omega, .inl rfl⟩
  · by_cases h1 : s.count = 64
    · exact ⟨0, 15, by rw [if_neg h0, if_neg (by decide), if_pos h1], by omega, .inr ⟨rfl, rfl, h1⟩⟩
    · exact ⟨min n (64 - s.count), 0, by rw [if_neg h0, if_neg (by decide), if_neg h1], by omega, .inl rfl⟩
theorem rdK_facts (s : PipeD) {m : Int} (hm : 0 ≤ m) : ∃ (k : Nat) (er : Int), rdK s m = (k, er) ∧ (k : Int) ≤ m ∧ k ≤ s.count ∧ (er = 0 ∨ (er = 15 ∧ k = 0 ∧ s.count = 0)) := by
  unfold rdK
  rw [if_neg (by omega)]
  by_cases h : 0 < m ∧ s.count = 0 ∧ 0 < s.writers
  · exact ⟨0, 15, by rw [if_pos h], by omega, by omega, .inr ⟨rfl, rfl, h.2.1⟩⟩
  · exact ⟨(min m (s.count : Int)).toNat, 0, by rw [if_neg h], by omega, by omega, .inl rfl⟩
theorem Owns.addr {B : Nat} {w : World} {a : Option Addr} {n c : Nat} {l : List Nat} (h : Owns B w (.slice a n c) l) : ∀ x, a = some x → B ≤ x.block := by
  intro x hx
  obtain ⟨_, _, ⟨e, _⟩ | ⟨g9, cap9, cur9, e, hB, _⟩⟩ := h
  · cases e; cases hx
  · cases e; cases hx; exact hB
theorem there_one {s : PipeD} (h : s.readers = 1) : thereB s = true := by unfold thereB; rw [h]; rfl
/-- 'append(own, bytes...)' under a guard that lets it be done. -/
theorem append_bytes_wantP {w : World} {ops : Array Oper} {rest : List Oper} {o : Oper} {a : Act} {Q : Exit → Act → World → Prop} (hw : Region.wanted o (yielded ops a.tmps) = true) (s x : Operand)
    (ho : o.op = .call { callee := .builtin .append, args := #[s, x], argTypes := #[33, 33] })
    (B : Nat) (v : Value) (l : List Nat) (hs : a.eval s = v) (hown : Owns B w v l) (sa : Option Addr) (m c : Nat) (hx : a.eval x = .slice sa m c) (news : List Nat) (hr : Reads w sa m news)
    (hb : l.length + m ≤ 140737488355328) (hB : B ≤ w.heap.size)
    (h : ∀ v' w', Owns B w' v' (l ++ news) → w.grownBy w' v.ownBlock → wpList Try.prog ops Q rest (a.put o.dst v') w') : wpList Try.prog ops Q (o :: rest) a w := by
  refine BigFrame.wpList_want hw fun K hK => ?_
  obtain ⟨hl, hown⟩ := hown
  obtain ⟨hlen, hbs, hr⟩ := hr
  obtain ⟨i0, hi, hz0, hz1, hz2⟩ := info_parts info_u8
  have close : ∀ v' w', w'.ownsRow B 5 1 v' (l.length + m) (l.map byteV ++ news.map byteV) → Owns B w' v' (l ++ news) := fun v' w' h' => by
    refine ⟨hl.append hbs, ?_⟩
    rw [List.length_append, hlen, List.map_append]
    exact h'
  cases sa with
  | none =>
    have hn : news = [] := by
      rcases hr with rfl | ⟨b, off, he, _⟩
      · rfl
      · cases he
    subst hn
    obtain rfl : m = 0 := by simpa using hlen.symm
    have hrun := run_append_nothing (P := Try.prog) (w := w) B 33 o.type 5 i0 1 Try.underlying33 hi v _ _ hown c
    unfold Oper.wp
    simp [execOp, ho, resolve, invoke, builtin, hs, hx, hrun, Result.andThen]
    exact hK _ _ (h _ _ (close _ _ (by simpa using hown)) ⟨rfl, rfl, rfl, Nat.le_refl _, fun _ _ _ => rfl⟩)
  | some ad =>
    refine wp_append_own w s x 33 ho B 5 i0 (.int .u8 0) 1 1 Try.underlying33 hi hz0 hz1 hz2 rfl (by decide) v l.length (l.map byteV) hs hown ad m c (news.map byteV) hx (by simp [hlen])
      ?_ (byteV_oneCell _) (by unfold maxLen; omega) (by omega) hB (fun v' w' h1 h2 _ => hK _ _ (h v' w' (close _ _ h1) h2))
    intro j u hu
    rcases hr with rfl | ⟨b, off, he, _, hc⟩
    · simp at hu
    · cases he
      simp only [List.getElem?_map, Option.map_eq_some_iff] at hu
      obtain ⟨y, hy, rfl⟩ := hu
      have hj : j < m := by rw [← hlen]; exact (List.getElem?_eq_some_iff.1 hy).1
      have hadd : (⟨b, off, none⟩ : Addr).add j = ⟨b, off + j, none⟩ := by unfold Addr.add; split <;> simp_all
      rw [hadd, hc j hj]
      simp [List.getD, hy, byteV]
set_option maxHeartbeats 4000000 in
theorem pipeOrders_walk (a : Option Addr) (cap : Nat) (l : List Act21D) (w : World) (hr : ReadsR w a 5 (rowsOf act21V l)) (hfit : ∀ u ∈ l, Act21Fits w u) (hcap : l.length ≤ cap) :
    Calls Try.prog 4 #[.slice a l.length cap] w fun e w' => e = .returned (.bool true) ∧ Below w.heap.size w w' := by
  obtain ⟨L, hL⟩ : ∃ L, l.length = L := ⟨_, rfl⟩
  have HLN := Lib.hid hL
  rw [hL] at hcap ⊢
  have HR := Lib.hid hr
  have HF := Lib.hid hfit
  clear hr hfit hL
  go_enter Try.func4, Try.ntmps4
  go_wp2_with fail
  refine (awake21_true w).mono ?_
  rintro e w1 ⟨rfl, b1⟩
  have B1 := Lib.hid b1
  clear b1
  go_wp2_with fail
  refine (pnew_is 1 (by decide) (by decide) w1).mono ?_
  rintro e w2 ⟨g, gs, rfl, hp2, b2⟩
  have HP2 : Hid (IsPipes w1.heap.size w2 g gs [zeroP]) := Lib.hid hp2
  have HGS : Hid (w1.heap.size ≤ gs) := Lib.hid (pipes_lt hp2).2.2
  have HB2 := Lib.hid (below_next B1.out b2)
  have HW1 := Lib.hid B1.out.size
  clear hp2 b2
  go_wp2_with fail
  have hmk : Calls Try.prog 18 #[.pointer (some ⟨g, 0, none⟩)] w2 (PipesPost w1.heap.size w2 g gs [newP] (.tuple #[.int .i64 1, .int .i64 0])) := pmake_yes HP2.out 0 zeroP (by rfl) rfl
  refine hmk.mono ?_
  rintro e w3 ⟨rfl, hp3, hg3⟩
  have HM3 : Hid (Many w1.heap.size w3 g gs [newP] [(.slice none 0 0, []), (.slice none 0 0, [])]) := Lib.hid ⟨hp3, fun i v l e => by
      match i, e with
      | 0, e => cases e; exact owns_nil _ _
      | 1, e => cases e; exact owns_nil _ _, fun i j v v' l l' _ e e' k hk => by
      match i, e with
      | 0, e => cases e; cases hk
      | 1, e => cases e; cases hk⟩
  have HB3 : Hid (Below w.heap.size w w3) := Lib.hid (HB2.out.grown hg3 HB2.out.size (fun i hi => by obtain rfl := Option.some.inj hi; have := HGS.out; have := HW1.out; omega))
  clear hmk hp3 hg3 HP2 HB2
  go_upto_block 0 with fail
  go_cut [6, 7] (fun v6 v7 wc => ∃ (s : PipeD) (inL outL : List Nat), Hid (Many w1.heap.size wc g gs [s] [(v6, inL), (v7, outL)]) ∧ Hid (inL = outL ++ content s ∧ s.readers = 1 ∧ s.writers = 1) ∧ Hid (inL.length ≤ 16000) ∧ Hid (Below w.heap.size w wc))
  case first =>
    go_wp2_with fail
    go_loopw [6, 7, 8] (fun v6 v7 i wr => ∃ (j : Nat) (s : PipeD) (inL outL : List Nat), i = .int .i64 (j : Int) ∧ j ≤ 80 ∧ j ≤ L ∧ Hid (Many w1.heap.size wr g gs [s] [(v6, inL), (v7, outL)]) ∧ Hid (inL = outL ++ content s ∧ s.readers = 1 ∧ s.writers = 1) ∧ Hid (inL.length ≤ 200 * j) ∧ Hid (Below w.heap.size w wr)) (fun _ _ i _ => 80 - (intOf i).toNat)
    case atStart => exact ⟨0, newP, [], [], rfl, by decide, Nat.zero_le _, HM3, Lib.hid ⟨rfl, rfl, rfl⟩, Lib.hid (Nat.le_refl _), HB3⟩
    case round =>
      obtain ⟨j, s, inL, outL, rfl, hj80, hjL, HM, HE, HN, HB⟩ := hrel
      clear HM3 HB3
      generalize u6 = v6 at *
      generalize u7 = v7 at *
      by_cases hlt : j < L
      · by_cases h80 : j < 80
        · obtain ⟨inN, hin⟩ : ∃ x, inL.length = x := ⟨_, rfl⟩
          obtain ⟨outN, hout⟩ : ∃ x, outL.length = x := ⟨_, rfl⟩
          obtain ⟨ia, ic, hv6⟩ := (HM.out.own 0 v6 inL rfl).shape
          obtain ⟨oa, oc, hv7⟩ := (HM.out.own 1 v7 outL rfl).shape
          rw [hin] at hv6
          rw [hout] at hv7
          subst hv6 hv7
          have hcnt : inN = outN + s.count := by have := congrArg List.length HE.out.1; rw [List.length_append, content_length, hin, hout] at this; exact this
          have HCNT := Lib.hid hcnt
          clear hcnt
          have hs64 : s.count ≤ 64 := (pipes_lts HM.out.pp (i := 0) rfl).2.2.1
          have hinb : inN ≤ 16000 := by have := HN.out; omega
          obtain ⟨⟨kd, num, n, m, sa, sn, sc, S⟩, hx⟩ : ∃ x, l[j]? = some x := ⟨_, List.getElem?_eq_getElem (by rw [HLN.out]; exact hlt)⟩
          obtain ⟨_, _, f3, _, f5, f6, f7⟩ := HF.out _ (List.mem_of_getElem? hx)
          dsimp only at f3 f5 f6 f7
          obtain ⟨b, off, rfl, hb, hc⟩ := (HR.out.below HB.out).row (rowsOf_get hx)
          have c0 : wr.cell? ⟨b, off + j * 5, none⟩ = some (.int .i64 kd) := hc 0 _ rfl
          have c1 : wr.cell? ⟨b, off + j * 5 + 1, none⟩ = some (.int .i64 num) := by have := hc 1 _ rfl; rwa [← Nat.add_assoc] at this
          have c2 : wr.cell? ⟨b, off + j * 5 + 2, none⟩ = some (.int .i64 n) := by have := hc 2 _ rfl; rwa [← Nat.add_assoc] at this
          have c3 : wr.cell? ⟨b, off + j * 5 + 3, none⟩ = some (.int .i64 m) := by have := hc 3 _ rfl; rwa [← Nat.add_assoc] at this
          have c4 : wr.cell? ⟨b, off + j * 5 + 4, none⟩ = some (.slice sa sn sc) := by have := hc 4 _ rfl; rwa [← Nat.add_assoc] at this
          have hx1 : (0 : Int) ≤ (j : Int) := by omega
          have hx2 : (j : Int) < (L : Int) := by omega
          have hx3 : (j : Int) < 80 := by omega
          have HLT := Lib.hid (And.intro hlt h80)
          have kb := below_box wr (.cells #[.int .i64 kd, .int .i64 num, .int .i64 n, .int .i64 m, .slice sa sn sc] 51)
          have nb := heap_alloc_new wr (.cells #[.int .i64 kd, .int .i64 num, .int .i64 n, .int .i64 m, .slice sa sn sc] 51)
          obtain ⟨wb, hwb⟩ : ∃ W, wr.alloc (.cells #[.int .i64 kd, .int .i64 num, .int .i64 n, .int .i64 m, .slice sa sn sc] 51) = W := ⟨_, rfl⟩
          rw [hwb] at kb nb
          obtain ⟨gb, hgb⟩ : ∃ x, wr.heap.size = x := ⟨_, rfl⟩
          rw [hgb] at nb
          have HNB := Lib.hid nb
          have HMB := Lib.hid (HM.out.below kb)
          have HBB : Hid (Below w.heap.size w wb) := Lib.hid (below_next HB.out kb)
          have HSB : Hid (S ≠ [] → ∀ x, sa = some x → x.block < w.heap.size) := Lib.hid (fun hne x hx => by
            rcases f5.2.2 with h0 | ⟨b9, o9, he, hb9, _⟩
            · exact absurd h0 hne
            · rw [hx] at he
              cases he
              exact hb9)
          have HS := Lib.hid (f5.below HBB.out)
          have HSC := Lib.hid f6
          have HN3 := Lib.hid f3
          have d0 := cell_atP nb 0
          have d2 := cell_atP nb 2
          have d4 := cell_atP nb 4
          have HIO := Lib.hid (And.intro hin hout)
          clear hc hx hb kb nb hlt h80 HM HB f3 f5 f6 f7 hin hout
          go_upto_if 48 with fail
          clear c0 c1 c2 c3 c4 hwb hgb
          go_cut [10] (fun v wc => ∃ (a1 : Option Addr) (n1 : Nat) (S1 : List Nat), v = .slice a1 n1 sc ∧ n1 ≤ 200 ∧ n1 ≤ sc ∧ Hid (wc = wb) ∧ Hid (Reads wb a1 n1 S1) ∧ Hid (S1 ≠ [] → ∀ x, a1 = some x → x.block < w.heap.size))
          case first =>
            by_cases h200 : 200 < sn
            · have h200' : (200 : Int) < (sn : Int) := by omega
              obtain ⟨a', hsl, hr', hne'⟩ := cut_is HS.out HSC.out 200 (by omega)
              have hsl' : ∀ W, (Instr.sliceAt 33 (.slice sa sn sc) none (some (.int .i64 200)) none).run Try.prog W = .ok (.slice a' 200 sc) W := hsl
              have HR9 := Lib.hid hr'
              have HS9 : Hid (S.take 200 ≠ [] → ∀ x, a' = some x → x.block < w.heap.size) := Lib.hid (fun h1 x hx => HSB.out (fun e => h1 (by rw [e]; rfl)) x (by rw [← hne' h1]; exact hx))
              have h9 : 200 ≤ sc := by have := HSC.out; omega
              clear hsl hr' hne' h200
              go_wp2_with fail
              go_meet
              exact ⟨a', 200, S.take 200, rfl, Nat.le_refl _, h9, Lib.hid rfl, HR9, HS9⟩
            · have h200' : ¬ (200 : Int) < (sn : Int) := by omega
              go_wp2_with fail
              go_meet
              exact ⟨sa, sn, S, rfl, by omega, HSC.out, Lib.hid rfl, HS, HSB⟩
          case rest =>
            obtain ⟨a1, n1, S1, rfl, hn200, hnsc, hwc, HS1, HSB1⟩ := hcut
            obtain rfl := hwc.out
            clear hwc HS HSB HSC
            have hs1 := HS1.out.1
            have hbz : (0 : Int) = 0 := rfl
            go_upto_if 54 with fail
            go_cut [6, 7] (fun v6 v7 wc => ∃ (s' : PipeD) (inL' outL' : List Nat), Hid (Many w1.heap.size wc g gs [s'] [(v6, inL'), (v7, outL')]) ∧ Hid (inL' = outL' ++ content s' ∧ s'.readers = 1 ∧ s'.writers = 1) ∧ Hid (inL'.length ≤ 200 * (j + 1)) ∧ Hid (Below w.heap.size w wc))
            case first =>
              by_cases hbit : bits .and .i64 kd 1 = 0
              · obtain ⟨k, er, hK, hkn, her⟩ := wrK_facts HE.out.2.1 hs64 S1.length
                have HWR := Lib.hid (pwrite_is HMB.out.pp 1 0 rfl s rfl (there_one HE.out.2.1) a1 n1 sc S1 HS1.out (by omega) hnsc (fun h1 x hx => by have := HSB1.out h1 x hx; have := HW1.out; have := HGS.out; omega))
                unfold WritePost at HWR
                rw [hK] at HWR
                rw [hs1] at hkn
                have hkn' : (k : Int) ≤ (n1 : Int) := by omega
                have hk0 : ¬ (k : Int) < 0 := by omega
                have hk1 : ¬ (n1 : Int) < (k : Int) := by omega
                obtain ⟨a2, hsl, hr2, hne2⟩ := cut_is HS1.out hnsc k hkn
                have hsl' := hsl
                have HR2 := Lib.hid hr2
                have HS2 : Hid (S1.take k ≠ [] → ∀ x, a2 = some x → x.block ≠ gs) := Lib.hid (fun h1 x hx => by
                  have h2 := HSB1.out (fun e => h1 (by rw [e, List.take_nil])) x (by rw [← hne2 h1]; exact hx)
                  have := HW1.out
                  have := HGS.out
                  omega)
                have hd : IntKind.i64.wrap ((inN : Int) - (outN : Int)) = (s.count : Int) := by rw [IntWalk.i64_in _ (by have := HCNT.out; omega)]; have := HCNT.out; omega
                obtain ⟨cn, hcn⟩ : ∃ x : Int, (s.count : Int) = x := ⟨_, rfl⟩
                rw [hcn] at hd
                have HCN := Lib.hid (And.intro hcn hs64)
                have hbnd : k ≤ 200 := by omega
                have her2 : er = 0 ∨ er = 15 ∧ ((k : Int) != 0) = false ∧ (cn != 64) = false := by
                  rcases her with h | ⟨h1, h2, h3⟩
                  · exact .inl h
                  · exact .inr ⟨h1, by rw [h2]; rfl, by rw [← hcn, h3]; rfl⟩
                clear hsl hr2 hne2 hK her hs64 hcn hs1
                go_wp2_with fail
                refine HWR.out.mono ?_
                rintro e w5 ⟨s', rfl, hp5, hg5, hc5, hr5, hw5⟩
                have HM5 := Lib.hid (HMB.out.pipes hg5 hp5)
                have HR5 := Lib.hid (HR2.out.grownP hg5 HS2.out)
                have HB5 : Hid (Below w.heap.size w w5) := Lib.hid (HBB.out.grown hg5 HBB.out.size (fun i hi => by obtain rfl := Option.some.inj hi; have := HGS.out; have := HW1.out; omega))
                have HE5 : Hid (inL ++ S1.take k = outL ++ content s' ∧ s'.readers = 1 ∧ s'.writers = 1) := Lib.hid ⟨by rw [hc5, HE.out.1, List.append_assoc], hr5.trans HE.out.2.1, hw5.trans HE.out.2.2⟩
                have hsz5 : w1.heap.size ≤ w5.heap.size := by have := (pipes_lt hp5).2.1; have := HGS.out; omega
                clear hp5 hg5 hc5 hr5 hw5 HMB HR2 HS2 HBB
                have HIN := Lib.hid HIO.out.1
                have HOWN := Lib.hid (HM5.out.own 0 _ _ rfl)
                have HLB : Hid (inL.length + k ≤ 140737488355328) := Lib.hid (by rw [HIN.out]; omega)
                rcases her2 with rfl | ⟨rfl, hk9, hcn9⟩
                all_goals
                  go_upto_region 19 with fail
                  go_wp2_with (at_builtin; refine append_bytes_at (by rfl) (.tmp 90) (.tmp 93) (by rfl) w1.heap.size (.slice ia inN ic) inL (by rfl) HOWN.out a2 k sc (by rfl) (S1.take k) HR5.out HLB.out hsz5 ?_; intro v' w6 ho hg hl)
                  have HM6 := Lib.hid (HM5.out.push (i := 0) rfl ho hg hl)
                  have HB6 : Hid (Below w.heap.size w w6) := Lib.hid (HB5.out.grown hg HB5.out.size (fun i hi => by have := (HM5.out.own 0 _ _ rfl).2.lt i hi; have := HW1.out; omega))
                  clear ho hg hl
                  have HN6 : Hid ((inL ++ S1.take k).length ≤ 200 * (j + 1)) := Lib.hid (by rw [List.length_append, List.length_take]; have := HN.out; omega)
                  go_wp2_with fail
                  go_meet
                  exact ⟨s', inL ++ S1.take k, outL, HM6, HE5, HN6, HB6⟩
              · have hm0 : (0 : Int) ≤ max 0 n := by omega
                obtain ⟨mx, hmx⟩ : ∃ x, max 0 n = x := ⟨_, rfl⟩
                rw [hmx] at hm0
                obtain ⟨k, er, hK, hkm, hks, her⟩ := rdK_facts s hm0
                have HRD := Lib.hid (pread_is HMB.out.pp 1 0 rfl s rfl (there_one HE.out.2.1) mx hm0)
                unfold ReadPost at HRD
                rw [hK] at HRD
                have hk1 : ¬ mx < (k : Int) := by omega
                have HKS := Lib.hid hks
                have her2 : er = 0 ∨ er = 15 ∧ ((inN : Int) != (outN : Int)) = false := by
                  rcases her with h | ⟨h1, h2, h3⟩
                  · exact .inl h
                  · exact .inr ⟨h1, by have := HCNT.out; rw [show inN = outN by omega]; simp⟩
                have HLK : Hid (((content s).take k).length = k) := Lib.hid (by rw [List.length_take, content_length]; omega)
                clear hK her hs64 hs1 hkm hks
                go_wp2_with fail
                try rw [hmx]
                refine HRD.out.mono ?_
                rintro e w5 ⟨s', vg, rfl, ho5, hp5, hg5, hc5, hr5, hw5⟩
                obtain ⟨ga, gcap, rfl, hrg, _, _⟩ := ho5.reads
                have HM5 := Lib.hid (HMB.out.pipes hg5 hp5)
                have HB5 : Hid (Below w.heap.size w w5) := Lib.hid (HBB.out.grown hg5 HBB.out.size (fun i hi => by obtain rfl := Option.some.inj hi; have := HGS.out; have := HW1.out; omega))
                have HE5 : Hid (inL = (outL ++ (content s).take k) ++ content s' ∧ s'.readers = 1 ∧ s'.writers = 1) := Lib.hid ⟨by rw [hc5, HE.out.1, List.append_assoc, List.take_append_drop], hr5.trans HE.out.2.1, hw5.trans HE.out.2.2⟩
                have hsz5 : w1.heap.size ≤ w5.heap.size := by have := (pipes_lt hp5).2.1; have := HGS.out; omega
                have n5 : w5.heap[gb]? = some (.cells #[.int .i64 kd, .int .i64 num, .int .i64 n, .int .i64 m, .slice sa sn sc] 51 (0, 0)) := (hg5.block gb (Array.getElem?_eq_some_iff.1 HNB.out).1 (fun e => by
                  obtain rfl := Option.some.inj e
                  exact HMB.out.pp.2.1.apartP HNB.out (by decide) rfl)).trans HNB.out
                have e2 := cell_atP n5 2
                rw [HLK.out] at hrg ⊢
                have HRG := Lib.hid hrg
                have HOWN := Lib.hid (HM5.out.own 1 _ _ rfl)
                have HLB : Hid (outL.length + k ≤ 140737488355328) := Lib.hid (by have := HCNT.out; have := HKS.out; rw [HIO.out.2]; omega)
                clear ho5 hp5 hg5 hc5 hr5 hw5 HMB HBB n5 hrg d0 d2 d4
                rcases her2 with rfl | ⟨rfl, hd9⟩
                all_goals
                  go_upto_region 23 with (first | rw [hmx] | fail)
                  go_wp2_with (at_builtin; refine append_bytes_at (by rfl) (.tmp 125) (.tmp 126) (by rfl) w1.heap.size (.slice oa outN oc) outL (by rfl) HOWN.out ga k gcap (by rfl) ((content s).take k) HRG.out HLB.out hsz5 ?_; intro v' w6 ho hg hl)
                  have HM6 := Lib.hid (HM5.out.push (i := 1) rfl ho hg hl)
                  have HB6 : Hid (Below w.heap.size w w6) := Lib.hid (HB5.out.grown hg HB5.out.size (fun i hi => by have := (HM5.out.own 1 _ _ rfl).2.lt i hi; have := HW1.out; omega))
                  clear ho hg hl
                  have HN6 : Hid (inL.length ≤ 200 * (j + 1)) := Lib.hid (by have := HN.out; omega)
                  go_wp2_with fail
                  go_meet
                  exact ⟨s', inL, outL ++ (content s).take k, HM6, HE5, HN6, HB6⟩
            case rest =>
              clear HMB HBB HE HN HCNT HIO HS1 HSB1 hbz d0 d2 d4 hs64 hinb
              obtain ⟨s', inL', outL', HM, HE, HN, HB⟩ := hcut
              generalize wc = wd at *
              generalize u6 = v6 at *
              generalize u7 = v7 at *
              obtain ⟨inN', hin⟩ : ∃ x, inL'.length = x := ⟨_, rfl⟩
              obtain ⟨outN', hout⟩ : ∃ x, outL'.length = x := ⟨_, rfl⟩
              obtain ⟨ia', ic', hv6⟩ := (HM.out.own 0 v6 inL' rfl).shape
              obtain ⟨oa', oc', hv7⟩ := (HM.out.own 1 v7 outL' rfl).shape
              rw [hin] at hv6
              rw [hout] at hv7
              subst hv6 hv7
              have hs64 : s'.count ≤ 64 := (pipes_lts HM.out.pp (i := 0) rfl).2.2.1
              have hcl := content_length s'
              obtain ⟨cl, hcl2⟩ : ∃ x, (content s').length = x := ⟨_, rfl⟩
              have hcnt : inN' = outN' + cl := by have := congrArg List.length HE.out.1; rw [List.length_append, hin, hout, hcl2] at this; exact this
              have hb9 := HN.out
              have hd : IntKind.i64.wrap ((inN' : Int) - (outN' : Int)) = (cl : Int) := by rw [IntWalk.i64_in _ (by omega)]; omega
              have h64 : ¬ (64 : Int) < (cl : Int) := by omega
              have hself : ((cl : Int) != (cl : Int)) = false := by simp
              have HLE := Lib.hid (plen_is HM.out.pp 1 0 rfl s' rfl (there_one HE.out.2.1))
              rw [hcl2] at HLE
              clear hcl hcl2 hcnt hb9 hin hout hs64
              go_wp2_with fail
              refine HLE.out.mono ?_
              rintro e we ⟨rfl, be⟩
              have HM9 := Lib.hid (HM.out.below be)
              have HB9 := Lib.hid (below_next HB.out be)
              clear be
              go_wp2
              have h1 := HLT.out.1
              have h2 := HLT.out.2
              go_roundw
              case rel => exact ⟨j + 1, s', inL', outL', by go_num, h2, h1, HM9, HE, HN, HB9⟩
              case measure => simp [intOf]; omega
        · have hx2 : (j : Int) < (L : Int) := by omega
          have hx3 : ¬ (j : Int) < 80 := by omega
          have hN9 : Hid (inL.length ≤ 16000) := Lib.hid (by have := HN.out; omega)
          go_wp2_with fail
          go_meet
          exact ⟨s, inL, outL, HM, HE, hN9, HB⟩
      · have hx2 : ¬ (j : Int) < (L : Int) := by omega
        have hN9 : Hid (inL.length ≤ 16000) := Lib.hid (by have := HN.out; omega)
        go_wp2_with fail
        go_meet
        exact ⟨s, inL, outL, HM, HE, hN9, HB⟩
  case rest =>
    clear HM3 HB3
    obtain ⟨s, inL, outL, HM, HE, HN, HB⟩ := hcut
    generalize wc = wf at *
    generalize u6 = v6 at *
    generalize u7 = v7 at *
    obtain ⟨inN, hin⟩ : ∃ x, inL.length = x := ⟨_, rfl⟩
    obtain ⟨outN, hout⟩ : ∃ x, outL.length = x := ⟨_, rfl⟩
    obtain ⟨ia, ic, hv6⟩ := (HM.out.own 0 v6 inL rfl).shape
    obtain ⟨oa, oc, hv7⟩ := (HM.out.own 1 v7 outL rfl).shape
    rw [hin] at hv6
    rw [hout] at hv7
    subst hv6 hv7
    have HIO := Lib.hid (And.intro hin hout)
    have hs64 : s.count ≤ 64 := (pipes_lts HM.out.pp (i := 0) rfl).2.2.1
    have HAD := Lib.hid (padd_yes HM.out.pp 1 0 rfl s rfl (there_one HE.out.2.1) 0 (-1) (by rw [HE.out.2.1]; decide) (by rw [HE.out.2.2]; decide))
    have hs2 : (endsP s 0 (-1)).readers = 1 ∧ (endsP s 0 (-1)).writers = 0 ∧ (endsP s 0 (-1)).count = s.count ∧ content (endsP s 0 (-1)) = content s := by
      refine ⟨?_, ?_, rfl, rfl⟩
      · show ((s.readers : Int) + 0).toNat = 1; rw [HE.out.2.1]; rfl
      · show ((s.writers : Int) + (-1)).toNat = 0; rw [HE.out.2.2]; rfl
    obtain ⟨s2, hs2e⟩ : ∃ x, endsP s 0 (-1) = x := ⟨_, rfl⟩
    rw [hs2e] at hs2 HAD
    have HS2 := Lib.hid hs2
    have hK : rdK s2 100 = (s.count, 0) := by
      unfold rdK
      rw [if_neg (by decide), if_neg (by rw [hs2.2.1]; omega), hs2.2.2.1]
      have : (min (100 : Int) (s.count : Int)).toNat = s.count := by omega
      rw [this]
    have HK := Lib.hid hK
    have HS64 := Lib.hid hs64
    clear hin hout hs64 hs2 hs2e hK
    go_wp2_with fail
    refine HAD.out.mono ?_
    rintro e wg ⟨rfl, hpg, hgg⟩
    have HMG : Hid (Many w1.heap.size wg g gs [s2] _) := Lib.hid (HM.out.pipes hgg hpg)
    have HBG : Hid (Below w.heap.size w wg) := Lib.hid (HB.out.grown hgg HB.out.size (fun i hi => by obtain rfl := Option.some.inj hi; have := HGS.out; have := HW1.out; omega))
    clear hpg hgg HM HB HAD
    have hrd : Calls Try.prog 20 #[.pointer (some ⟨g, 0, none⟩), .int .i64 1, .int .i64 100] wg (ReadPost w1.heap.size wg g gs [s2] 0 s2 100) := pread_is HMG.out.pp 1 0 rfl s2 rfl (there_one HS2.out.1) 100 (by decide)
    unfold ReadPost at hrd
    rw [HK.out] at hrd
    have HRD := Lib.hid hrd
    clear hrd
    go_wp2_with fail
    refine HRD.out.mono ?_
    rintro e wh ⟨s3, vr, rfl, hoh, hph, hgh, hch, hrh, hwh⟩
    have hres : (content s2).take s.count = content s := by rw [HS2.out.2.2.2, List.take_of_length_le (by rw [content_length]; exact Nat.le_refl _)]
    rw [hres] at hoh
    have hc3 : content s3 = [] := by rw [hch, HS2.out.2.2.2]; exact List.drop_of_length_le (by rw [content_length]; exact Nat.le_refl _)
    have h30 : s3.count = 0 := by rw [← content_length, hc3]; rfl
    have hK3 : rdK s3 100 = (0, 0) := by
      unfold rdK
      rw [if_neg (by decide), if_neg (by rw [hwh, HS2.out.2.1]; omega), h30]
      rfl
    have HMH : Hid (Many w1.heap.size wh g gs [s3] _) := Lib.hid (HMG.out.pipes hgh hph)
    have HBH : Hid (Below w.heap.size w wh) := Lib.hid (HBG.out.grown hgh HBG.out.size (fun i hi => by obtain rfl := Option.some.inj hi; have := HGS.out; have := HW1.out; omega))
    have hrd : Calls Try.prog 20 #[.pointer (some ⟨g, 0, none⟩), .int .i64 1, .int .i64 100] wh (ReadPost w1.heap.size wh g gs [s3] 0 s3 100) := pread_is HMH.out.pp 1 0 rfl s3 rfl (there_one (hrh.trans HS2.out.1)) 100 (by decide)
    unfold ReadPost at hrd
    rw [hK3, hc3] at hrd
    have HRD2 := Lib.hid hrd
    obtain ⟨ra, rc, rfl, hrr, _, _⟩ := hoh.reads
    obtain ⟨rn, hrn⟩ : ∃ x, (content s).length = x := ⟨_, rfl⟩
    rw [hrn] at hrr ⊢
    have HRB : Hid (∀ x, ra = some x → content s ≠ [] → x.block ≠ gs) := Lib.hid (fun x hx hne e => by
      have h1 := hoh.addr x hx
      have := (pipes_lt HMG.out.pp).2.1
      omega)
    have HRR := Lib.hid hrr
    have HRN := Lib.hid hrn
    clear hrd hres hc3 h30 hK3 hoh hph hgh hch hrh hwh HMG HBG HRD hrr hrn
    go_wp2_with fail
    refine HRD2.out.mono ?_
    rintro e wi ⟨s4, ve, rfl, hoi, hpi, hgi, _, _, _⟩
    obtain ⟨ea, ec, rfl⟩ := hoi.shape
    have HMI : Hid (Many w1.heap.size wi g gs [s4] _) := Lib.hid (HMH.out.pipes hgi hpi)
    have HBI : Hid (Below w.heap.size w wi) := Lib.hid (HBH.out.grown hgi HBH.out.size (fun i hi => by obtain rfl := Option.some.inj hi; have := HGS.out; have := HW1.out; omega))
    have HRI := Lib.hid (HRR.out.grownP hgi (fun h1 x hx => HRB.out x hx h1))
    have HOI := Lib.hid (HMI.out.own 1 _ _ rfl)
    have hszi : w1.heap.size ≤ wi.heap.size := by have := (pipes_lt hpi).2.1; have := HGS.out; omega
    have HLB : Hid (outL.length + rn ≤ 140737488355328) := Lib.hid (by have h1 := congrArg List.length HE.out.1; rw [List.length_append, HRN.out] at h1; have := HN.out; omega)
    have hz0 : (List.take 0 ([] : List Nat)).length = 0 := rfl
    rw [hz0]
    clear hoi hpi hgi HMH HBH HRD2 hz0
    go_upto_region 31 with fail
    go_wp2_with (at_builtin; refine append_bytes_wantP (by rfl) (.tmp 173) (.tmp 174) (by rfl) w1.heap.size (.slice oa outN oc) outL (by rfl) HOI.out ra rn rc (by rfl) (content s) HRI.out HLB.out hszi ?_; intro v' wj ho hg)
    obtain ⟨va, vc, rfl, hrv, _, _⟩ := ho.reads
    have hall : outL ++ content s = inL := HE.out.1.symm
    have hkin : Owns w1.heap.size wj (.slice ia inN ic) inL := (HMI.out.own 0 _ _ rfl).keptP hg (by
      rcases hv : (Value.slice ia inN ic).ownBlock with _ | k
      · exact .inl rfl
      · right
        intro e9
        exact HMI.out.ap 0 1 _ _ _ _ (by decide) rfl rfl k hv e9.symm)
    obtain ⟨xa, xc, ex, hrx, _, _⟩ := hkin.reads
    obtain ⟨rfl, _, rfl⟩ := Value.slice.inj ex
    rw [hall, HIO.out.1] at hrv ⊢
    rw [HIO.out.1] at hrx
    have hBJ : Hid (Below w.heap.size w wj) := Lib.hid (HBI.out.grown hg HBI.out.size (fun i hi => by have := (HOI.out).2.lt i hi; have := HW1.out; omega))
    have hin9 : inN ≤ maxLen := by have := HIO.out.1; have := HN.out; unfold maxLen; omega
    have HEQ := Lib.hid (equal_alike va ia inN vc ic inL inL wj hrv hrx hin9)
    have hsb : sameB inL inL = true := by simp [sameB]
    rw [hsb] at HEQ
    clear ho hg hrv hkin hrx hall hin9 hsb
    go_wp2_with fail
    refine HEQ.out.mono ?_
    rintro e wk ⟨rfl, nq, rfl⟩
    go_wp2_with fail
    go_ret
    exact ⟨rfl, below_next hBJ.out (below_drewN _ nq)⟩
end Go.Proofs.Ythainmbapikjiaa
