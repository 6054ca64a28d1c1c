/- The document's table of processes: Exit. (Printed by wip/gen/rtr7.py.) -/
import Derived.Test.YtnengblmcfiajaaGjpgolngo
namespace Go.Proofs.Ytnengblmcfiajaa
open Go.RowKit Go.Sort
set_option linter.unusedVariables false
set_option linter.unusedSimpArgs false
set_option maxRecDepth 100000

def nextP (n c : Int) (u : ProcD) : ProcD := orphP n (if u.pid = n then endP n c u else u)
theorem endL_snoc {n c : Int} {l : List ProcD} {k : Nat} {u : ProcD} (h : l[k]? = some u) : (zomB (nextP n c u) = true → endL n c (l.take (k + 1)) = endL n c (l.take k)) ∧ (zomB (nextP n c u) = false → endL n c (l.take (k + 1)) = endL n c (l.take k) ++ [nextP n c u]) := by
  have e : endL n c (l.take (k + 1)) = endL n c (l.take k) ++ [nextP n c u].filter fun x => !zomB x := by
    unfold endL hitL
    rw [List.take_add_one, h, List.map_append, List.map_append, List.filter_append]
    rfl
  refine ⟨fun hz => ?_, fun hz => ?_⟩
  · rw [e]; simp [hz]
  · rw [e]; simp [hz]
theorem endL_len (n c : Int) (l : List ProcD) : (endL n c l).length ≤ l.length := by
  unfold endL hitL
  exact Nat.le_trans (List.length_filter_le _ _) (by rw [List.length_map, List.length_map]; exact Nat.le_refl _)
theorem lit_row (w : World) (cs : Array Value) (h : cs.size = 6) : ReadsR ((w.alloc (.cells cs 78)).alloc (.cells cs 78)) (some ⟨w.heap.size + 1, 0, none⟩) 6 [cs.toList] := by
  refine ⟨by intro p hp; simp only [List.mem_singleton] at hp; subst hp; rw [Array.length_toList]; exact h, .inr ⟨w.heap.size + 1, 0, rfl, by simp, fun i u hu => ?_⟩⟩
  have h1 := heap_alloc_new (w.alloc (.cells cs 78)) (.cells cs 78)
  rw [show (w.alloc (.cells cs 78)).heap.size = w.heap.size + 1 by simp] at h1
  rw [Nat.zero_add]
  refine (cell_atT h1 i).trans ?_
  have : flatR [cs.toList] = cs.toList := by simp [flatR]
  rw [this] at hu
  rw [← Array.getElem?_toList]
  exact hu
theorem onerow6 {r : List Value} (h : ∀ u ∈ r, u.oneCell' = true) : OneRows [r] := by
  intro p hp u hu
  simp only [List.mem_singleton] at hp
  subst hp
  exact h u hu
theorem OwnsR'.grown2 {B b : Nat} {w0 w w' : World} {e : TypeId} {k : Nat} {v : Value} {l : List (List Value)} (h : OwnsR' B w e k v l) (hb : Below b w0 w) (hs : B ≤ w.heap.size) (hg : w.grownBy w' v.ownBlock) (hB : b ≤ B) : Below b w0 w' :=
  hb.grown hg (Nat.le_trans hB hs) (fun j hj => Nat.le_trans hB (h.lt j hj).1)
theorem CopyPre.lay {w W : World} {g0 g1 L : Nat} {v v8 : Value} {m la no : Int} {a : Option Addr} {l l' : List ProcD} (h : CopyPre w W g0 g1 v m la no a l) (hL : l'.length = L) (h1 : 1 ≤ L)
    (o : OwnsR' w.heap.size W 78 6 v8 (procsV l')) :
    ∃ gN cN W9, v8 = .slice (some ⟨gN, 0, none⟩) L cN ∧ W.setCell ⟨g0, 0, none⟩ (.slice (some ⟨gN, 0, none⟩) L cN) = W9 ∧ (W.cell? ⟨g0, 0, none⟩ = some v ∧ W.frozen? ⟨g0, 0, none⟩ = false) ∧
      Hid (Bx w W9 g0 g1 (.slice (some ⟨gN, 0, none⟩) L cN) m la no ∧ OwnsR' w.heap.size W9 78 6 (.slice (some ⟨gN, 0, none⟩) L cN) (procsV l')) := by
  obtain ⟨gN, cN, hv⟩ := own_formT o (by rw [procsV_length]; omega)
  rw [procsV_length, hL] at hv
  subst hv
  have h3 := heap_setCell_same _ g0 0 _ _ (.slice (some ⟨gN, 0, none⟩) L cN) h.bx.t
  have k := grown_setCellT W ⟨g0, 0, none⟩ (.slice (some ⟨gN, 0, none⟩) L cN)
  have hg := h.bx.g
  refine ⟨gN, cN, _, rfl, rfl, ⟨h.bx.t.cells.1.1, h.bx.t.cells.2.1 0⟩, Lib.hid ⟨⟨h3, h.bx.r.kept k (by intro e; have e9 : g1 = g0 := Option.some.inj e; omega), h.bx.b.grown k h.bx.b.size (by intro j hj; obtain rfl := Option.some.inj hj; exact hg.1), hg⟩, o.kept k (.inr (by intro e; have e9 : gN = g0 := Option.some.inj e; have h9 := o.apartT h.bx.t (by decide); exact h9 (by rw [e9]; rfl)))⟩⟩
set_option maxHeartbeats 3200000 in
theorem rexit_is {B : Nat} {w : World} {v : Value} {T : TabD} (h : RTab B w v T) (hB : B ≤ w.heap.size) (hI : TrInv T) (n code : Int) :
    Calls Try.prog 36 #[v, .int .i64 n, .int .i64 code] w (RPost22 B w (exitF T n code).1 [.int .i64 (exitF T n code).2]) := by
  have H := Lib.hid h
  obtain ⟨a, c, rfl, hr, hc, o1, o2, o3, o4, o5, o6, o7⟩ := h.reads
  obtain ⟨w1, w2, g0, g1, hw1, hw2, hg0, hg1, HP⟩ := bx_new w (.slice a T.list.length c) T.most T.last T.now
  have HR := Lib.hid hr
  have HLV := Lib.hid (fun (W : World) (hW : Below w.heap.size w W) => rlive_is (H.out.below hW) n)
  have HOK := Lib.hid (show TabOk T from ⟨o1, o2, o3, o4, o5, o6, o7⟩)
  unfold exitF
  rcases gone_cases T n with ⟨e, _⟩ | ⟨e, i, s, hf, hs, hp⟩
  · rw [if_pos e]
    simp only [e, if_true] at HLV
    unfold rtabV at H HLV ⊢
    clear e h hr hc o1 o2 o3 o4 o5 o6 o7 HR hI
    go_enter Try.func36, Try.ntmps36
    obtain ⟨⟨t0, t1, t2, t3⟩, _, _⟩ := HP.out.t.cells
    go_wp2_with fail
    refine (HLV.out w2 HP.out.b).mono ?_
    rintro e w3 ⟨rfl, b3⟩
    have HP3 := Lib.hid (HP.out.below b3)
    clear t0 t1 t2 t3 b3
    obtain ⟨⟨t0, t1, t2, t3⟩, _, _⟩ := HP3.out.t.cells
    obtain ⟨⟨r0, r1, r2, r3⟩, rf, W', hW', HF⟩ := HP3.out.fin (.slice a T.list.length c) T.most T.last T.now
    go_wp2
    exact bodyPost_ret (results_rt2 rfl _ _ g1 rfl HF.out.1) rfl ⟨_, rfl, H.out.below HF.out.2.1, HF.out.2.1⟩
  · rw [if_neg (by rw [e]; decide)]
    simp only [e, Bool.false_eq_true, if_false] at HLV
    by_cases hn : n = 1
    · rw [if_pos hn]
      subst hn
      unfold rtabV at H HLV ⊢
      clear e h hr hc o1 o2 o3 o4 o5 o6 o7 HR hI hf hs hp
      go_enter Try.func36, Try.ntmps36
      obtain ⟨⟨t0, t1, t2, t3⟩, _, _⟩ := HP.out.t.cells
      go_wp2_with fail
      refine (HLV.out w2 HP.out.b).mono ?_
      rintro e w3 ⟨rfl, b3⟩
      have HP3 := Lib.hid (HP.out.below b3)
      clear t0 t1 t2 t3 b3
      obtain ⟨⟨t0, t1, t2, t3⟩, _, _⟩ := HP3.out.t.cells
      obtain ⟨⟨r0, r1, r2, r3⟩, rf, W', hW', HF⟩ := HP3.out.fin (.slice a T.list.length c) T.most T.last T.now
      go_wp2
      exact bodyPost_ret (results_rt2 rfl _ _ g1 rfl HF.out.1) rfl ⟨_, rfl, H.out.below HF.out.2.1, HF.out.2.1⟩
    · rw [if_neg hn]
      have hnb : (n == 1) = false := by simpa using hn
      have HCC := Lib.hid (show (code.tmod 256 + 256).tmod 256 = bits .and .i64 code 255 from by rw [turn256, and255])
      obtain ⟨CC, hCC⟩ : ∃ x, bits .and .i64 code 255 = x := ⟨_, rfl⟩
      rw [hCC] at HCC ⊢
      have h1e := endL_len1 hI n CC hn (alive_of hI hf hs hp)
      have HOK2 : Hid (TabOk { T with list := endL n CC T.list }) := Lib.hid ⟨o1, o2, h1e, Nat.le_trans (endL_len _ _ _) o4, o5, o6, o7⟩
      have m1 : -256 < code.tmod 256 := Int.lt_tmod_of_pos code (b := 256) (by decide)
      have m2 : code.tmod 256 < 256 := Int.tmod_lt_of_pos code (by decide)
      have m3 : IntKind.i64.wrap (code.tmod 256 + 256) = code.tmod 256 + 256 := IntWalk.i64_in _ (by omega)
      have m4 := HCC.out
      unfold rtabV at HLV ⊢
      clear e h hr hc o1 o2 o3 o5 o6 o7 hf hs hp hI h1e hCC hn HCC
      obtain ⟨l, hl⟩ : ∃ l, T.list = l := ⟨_, rfl⟩
      obtain ⟨L, hL⟩ : ∃ L, l.length = L := ⟨_, rfl⟩
      have HL := Lib.hid hL
      rw [hl] at HOK2 HR HP HLV hw1 o4 ⊢
      rw [hL] at HP HLV hw1 o4 ⊢
      obtain ⟨M1, hM1⟩ : ∃ x, T.most = x := ⟨_, rfl⟩
      obtain ⟨M2, hM2⟩ : ∃ x, T.last = x := ⟨_, rfl⟩
      obtain ⟨M3, hM3⟩ : ∃ x, T.now = x := ⟨_, rfl⟩
      rw [hM1, hM2, hM3] at HP HLV hw1 HOK2
      rw [hM1, hM2, hM3]
      dsimp only
      clear hl hL hM1 hM2 hM3 H HOK
      go_enter Try.func36, Try.ntmps36
      obtain ⟨⟨t0, t1, t2, t3⟩, _, _⟩ := HP.out.t.cells
      go_wp2_with fail
      refine (HLV.out w2 HP.out.b).mono ?_
      rintro e w3 ⟨rfl, b3⟩
      have HP3 : Hid (CopyPre w w3 g0 g1 (.slice a L c) M1 M2 M3 a l) := Lib.hid ⟨HP.out.below b3, HR.out.below (below_next HP.out.b b3)⟩
      clear t0 t1 t2 t3 b3 HP HR HLV hw1 hw2 hg0 hg1
      go_wp2
      go_loopw [9, 10] (fun v i wr => ∃ k : Nat, k ≤ L ∧ i = .int .i64 k ∧ Hid (OwnsR' w3.heap.size wr 78 6 v (procsV (endL n CC (l.take k)))) ∧ Hid (Below w3.heap.size w3 wr)) (fun _ i _ => L - (intOf i).toNat)
      case atStart => exact ⟨0, Nat.zero_le _, rfl, Lib.hid (OwnsR'.nil _ _ _ _), Lib.hid (Below.refl _ _)⟩
      case round =>
        obtain ⟨k, hk, rfl, HO, HB⟩ := hrel
        have hx1 : (0 : Int) ≤ (k : Int) := by omega
        have c0 := (HP3.out.bx.t.below HB.out).cells.1.1
        by_cases hlt : k < L
        · obtain ⟨u, hrow⟩ : ∃ r, l[k]? = some r := ⟨_, List.getElem?_eq_getElem (by rw [HL.out]; exact hlt)⟩
          have HSN := Lib.hid (endL_snoc (n := n) (c := CC) hrow)
          obtain ⟨b, off, rfl, hb, hcc⟩ := (HP3.out.rd.below HB.out).row (procsV_get hrow)
          obtain ⟨u0, u1, u2, u3, u4, u5⟩ := u
          have d0 : wr.cell? ⟨b, off + k * 6, none⟩ = some (.int .i64 u0) := hcc 0 _ rfl
          have d1 : wr.cell? ⟨b, off + k * 6 + 1, none⟩ = some (.int .i64 u1) := by have := hcc 1 _ rfl; rwa [← Nat.add_assoc] at this
          have d2 : wr.cell? ⟨b, off + k * 6 + 2, none⟩ = some (.int .i64 u2) := by have := hcc 2 _ rfl; rwa [← Nat.add_assoc] at this
          have d3 : wr.cell? ⟨b, off + k * 6 + 3, none⟩ = some (.int .i64 u3) := by have := hcc 3 _ rfl; rwa [← Nat.add_assoc] at this
          have d4 : wr.cell? ⟨b, off + k * 6 + 4, none⟩ = some (.int .i64 u4) := by have := hcc 4 _ rfl; rwa [← Nat.add_assoc] at this
          have d5 : wr.cell? ⟨b, off + k * 6 + 5, none⟩ = some (.bool u5) := by have := hcc 5 _ rfl; rwa [← Nat.add_assoc] at this
          have hx2 : (k : Int) < (L : Int) := by omega
          have HLT := Lib.hid hlt
          have HLEN : Hid ((procsV (endL n CC (l.take k))).length ≤ 16) := Lib.hid (by rw [procsV_length]; exact Nat.le_trans (endL_len _ _ _) (by rw [List.length_take]; omega))
          have HSZ := Lib.hid HB.out.size
          clear hcc hrow hb hlt
          by_cases hu : u0 = n
          · by_cases hp : u1 = n
            · have hx : nextP n CC ⟨u0, u1, u2, u3, u4, u5⟩ = (⟨n, 1, 3, CC, 0, false⟩ : ProcD) := by unfold nextP orphP endP; simp [hu, hp]
              have hq : (u0 == n) = true := by simpa using hu
              have hq2 : (u1 == n) = true := by simpa using hp
              rw [hx] at HSN
              clear hx hu hp
              have hzz : True := trivial
              have HNX : Hid (procsV (endL n CC (l.take (k + 1))) = procsV (endL n CC (l.take k))) := Lib.hid (by rw [HSN.out.1 (by rfl)])
              clear hzz
              go_wp2
              have h9 := HLT.out
              go_roundw
              case rel =>
                refine ⟨k + 1, HLT.out, by go_num, Lib.hid ?_, Lib.hid (below_next HB.out (below_box _ _))⟩
                rw [HNX.out]; exact HO.out.below (below_box _ _)
              case measure => simp [intOf]; omega

            · have hx : nextP n CC ⟨u0, u1, u2, u3, u4, u5⟩ = (⟨n, u1, 3, CC, 0, false⟩ : ProcD) := by unfold nextP orphP endP; simp [hu, hp]
              have hq : (u0 == n) = true := by simpa using hu
              have hq2 : (u1 == n) = false := by simpa using hp
              rw [hx] at HSN
              clear hx hu hp
              by_cases hz : u1 = 1
              · have hzz : (u1 != 1) = false := by simpa using hz
                have HNX : Hid (procsV (endL n CC (l.take (k + 1))) = procsV (endL n CC (l.take k))) := Lib.hid (by rw [HSN.out.1 (by unfold zomB; simp [hz])])
                clear hz
                go_wp2
                have h9 := HLT.out
                go_roundw
                case rel =>
                  refine ⟨k + 1, HLT.out, by go_num, Lib.hid ?_, Lib.hid (below_next HB.out (below_box _ _))⟩
                  rw [HNX.out]; exact HO.out.below (below_box _ _)
                case measure => simp [intOf]; omega
              · have hzz : (u1 != 1) = true := by simpa using hz
                have HNX : Hid (procsV (endL n CC (l.take (k + 1))) = procsV (endL n CC (l.take k)) ++ [[.int .i64 n, .int .i64 u1, .int .i64 3, .int .i64 CC, .int .i64 0, .bool false]]) := Lib.hid (by rw [HSN.out.2 (by unfold zomB; simp [hz])]; unfold procsV; rw [List.map_append]; rfl)
                clear hz
                go_wp2_with (at_builtin; refine wpList_append_rows' rfl _ _ 26 rfl w3.heap.size 78 _ 6 48 Try.underlying26 info_rproc rfl (by decide) _ (procsV (endL n CC (l.take k))) (by rfl) ((HO.out.below (below_box _ _)).below (below_box _ _)) _ 1 [[.int .i64 n, .int .i64 u1, .int .i64 3, .int .i64 CC, .int .i64 0, .bool false]] rfl (lit_row wr #[.int .i64 n, .int .i64 u1, .int .i64 3, .int .i64 CC, .int .i64 0, .bool false] (by rfl)) (onerow6 (by intro y hy; simp only [List.mem_cons, List.not_mem_nil, or_false] at hy; rcases hy with rfl | rfl | rfl | rfl | rfl | rfl <;> rfl)) (by have := HLEN.out; simp; omega) (by have := HLEN.out; unfold maxLen; simp; omega) (by have := HSZ.out; simp; omega) ?_; intro v9 w9 o9 g9)
                have h9 := HLT.out
                go_roundw
                case rel =>
                  refine ⟨k + 1, HLT.out, by go_num, Lib.hid ?_, Lib.hid ?_⟩
                  · rw [HNX.out]; exact o9
                  · exact (((HO.out.below (below_box _ _)).below (below_box _ _))).grown2 (below_next (below_next HB.out (below_box _ _)) (below_box _ _)) (by have := HSZ.out; simp; omega) g9 (Nat.le_refl _)
                case measure => simp [intOf]; omega

          · by_cases hp : u1 = n
            · have hx : nextP n CC ⟨u0, u1, u2, u3, u4, u5⟩ = (⟨u0, 1, u2, u3, u4, u5⟩ : ProcD) := by unfold nextP orphP endP; simp [hu, hp]
              have hq : (u0 == n) = false := by simpa using hu
              have hq2 : (u1 == n) = true := by simpa using hp
              rw [hx] at HSN
              clear hx hu hp
              by_cases hz : u2 = 3
              · have hzz : (u2 != 3) = false := by simpa using hz
                have HNX : Hid (procsV (endL n CC (l.take (k + 1))) = procsV (endL n CC (l.take k))) := Lib.hid (by rw [HSN.out.1 (by unfold zomB; simp [hz])])
                clear hz
                go_wp2
                have h9 := HLT.out
                go_roundw
                case rel =>
                  refine ⟨k + 1, HLT.out, by go_num, Lib.hid ?_, Lib.hid (below_next HB.out (below_box _ _))⟩
                  rw [HNX.out]; exact HO.out.below (below_box _ _)
                case measure => simp [intOf]; omega
              · have hzz : (u2 != 3) = true := by simpa using hz
                have HNX : Hid (procsV (endL n CC (l.take (k + 1))) = procsV (endL n CC (l.take k)) ++ [[.int .i64 u0, .int .i64 1, .int .i64 u2, .int .i64 u3, .int .i64 u4, .bool u5]]) := Lib.hid (by rw [HSN.out.2 (by unfold zomB; simp [hz])]; unfold procsV; rw [List.map_append]; rfl)
                clear hz
                go_wp2_with (at_builtin; refine wpList_append_rows' rfl _ _ 26 rfl w3.heap.size 78 _ 6 48 Try.underlying26 info_rproc rfl (by decide) _ (procsV (endL n CC (l.take k))) (by rfl) ((HO.out.below (below_box _ _)).below (below_box _ _)) _ 1 [[.int .i64 u0, .int .i64 1, .int .i64 u2, .int .i64 u3, .int .i64 u4, .bool u5]] rfl (lit_row wr #[.int .i64 u0, .int .i64 1, .int .i64 u2, .int .i64 u3, .int .i64 u4, .bool u5] (by rfl)) (onerow6 (by intro y hy; simp only [List.mem_cons, List.not_mem_nil, or_false] at hy; rcases hy with rfl | rfl | rfl | rfl | rfl | rfl <;> rfl)) (by have := HLEN.out; simp; omega) (by have := HLEN.out; unfold maxLen; simp; omega) (by have := HSZ.out; simp; omega) ?_; intro v9 w9 o9 g9)
                have h9 := HLT.out
                go_roundw
                case rel =>
                  refine ⟨k + 1, HLT.out, by go_num, Lib.hid ?_, Lib.hid ?_⟩
                  · rw [HNX.out]; exact o9
                  · exact (((HO.out.below (below_box _ _)).below (below_box _ _))).grown2 (below_next (below_next HB.out (below_box _ _)) (below_box _ _)) (by have := HSZ.out; simp; omega) g9 (Nat.le_refl _)
                case measure => simp [intOf]; omega

            · have hx : nextP n CC ⟨u0, u1, u2, u3, u4, u5⟩ = (⟨u0, u1, u2, u3, u4, u5⟩ : ProcD) := by unfold nextP orphP endP; simp [hu, hp]
              have hq : (u0 == n) = false := by simpa using hu
              have hq2 : (u1 == n) = false := by simpa using hp
              rw [hx] at HSN
              clear hx hu hp
              by_cases hz : u2 = 3
              · have hzz : (u2 != 3) = false := by simpa using hz
                by_cases hy : u1 = 1
                · have hzy : (u1 != 1) = false := by simpa using hy
                  have HNX : Hid (procsV (endL n CC (l.take (k + 1))) = procsV (endL n CC (l.take k))) := Lib.hid (by rw [HSN.out.1 (by unfold zomB; simp [hz, hy])])
                  clear hz hy
                  go_wp2
                  have h9 := HLT.out
                  go_roundw
                  case rel =>
                    refine ⟨k + 1, HLT.out, by go_num, Lib.hid ?_, Lib.hid (below_next HB.out (below_box _ _))⟩
                    rw [HNX.out]; exact HO.out.below (below_box _ _)
                  case measure => simp [intOf]; omega
                · have hzy : (u1 != 1) = true := by simpa using hy
                  have HNX : Hid (procsV (endL n CC (l.take (k + 1))) = procsV (endL n CC (l.take k)) ++ [[.int .i64 u0, .int .i64 u1, .int .i64 u2, .int .i64 u3, .int .i64 u4, .bool u5]]) := Lib.hid (by rw [HSN.out.2 (by unfold zomB; simp [hz, hy])]; unfold procsV; rw [List.map_append]; rfl)
                  clear hz hy
                  go_wp2_with (at_builtin; refine wpList_append_rows' rfl _ _ 26 rfl w3.heap.size 78 _ 6 48 Try.underlying26 info_rproc rfl (by decide) _ (procsV (endL n CC (l.take k))) (by rfl) ((HO.out.below (below_box _ _)).below (below_box _ _)) _ 1 [[.int .i64 u0, .int .i64 u1, .int .i64 u2, .int .i64 u3, .int .i64 u4, .bool u5]] rfl (lit_row wr #[.int .i64 u0, .int .i64 u1, .int .i64 u2, .int .i64 u3, .int .i64 u4, .bool u5] (by rfl)) (onerow6 (by intro y hy; simp only [List.mem_cons, List.not_mem_nil, or_false] at hy; rcases hy with rfl | rfl | rfl | rfl | rfl | rfl <;> rfl)) (by have := HLEN.out; simp; omega) (by have := HLEN.out; unfold maxLen; simp; omega) (by have := HSZ.out; simp; omega) ?_; intro v9 w9 o9 g9)
                  have h9 := HLT.out
                  go_roundw
                  case rel =>
                    refine ⟨k + 1, HLT.out, by go_num, Lib.hid ?_, Lib.hid ?_⟩
                    · rw [HNX.out]; exact o9
                    · exact (((HO.out.below (below_box _ _)).below (below_box _ _))).grown2 (below_next (below_next HB.out (below_box _ _)) (below_box _ _)) (by have := HSZ.out; simp; omega) g9 (Nat.le_refl _)
                  case measure => simp [intOf]; omega
              · have hzz : (u2 != 3) = true := by simpa using hz
                have HNX : Hid (procsV (endL n CC (l.take (k + 1))) = procsV (endL n CC (l.take k)) ++ [[.int .i64 u0, .int .i64 u1, .int .i64 u2, .int .i64 u3, .int .i64 u4, .bool u5]]) := Lib.hid (by rw [HSN.out.2 (by unfold zomB; simp [hz])]; unfold procsV; rw [List.map_append]; rfl)
                clear hz
                go_wp2_with (at_builtin; refine wpList_append_rows' rfl _ _ 26 rfl w3.heap.size 78 _ 6 48 Try.underlying26 info_rproc rfl (by decide) _ (procsV (endL n CC (l.take k))) (by rfl) ((HO.out.below (below_box _ _)).below (below_box _ _)) _ 1 [[.int .i64 u0, .int .i64 u1, .int .i64 u2, .int .i64 u3, .int .i64 u4, .bool u5]] rfl (lit_row wr #[.int .i64 u0, .int .i64 u1, .int .i64 u2, .int .i64 u3, .int .i64 u4, .bool u5] (by rfl)) (onerow6 (by intro y hy; simp only [List.mem_cons, List.not_mem_nil, or_false] at hy; rcases hy with rfl | rfl | rfl | rfl | rfl | rfl <;> rfl)) (by have := HLEN.out; simp; omega) (by have := HLEN.out; unfold maxLen; simp; omega) (by have := HSZ.out; simp; omega) ?_; intro v9 w9 o9 g9)
                have h9 := HLT.out
                go_roundw
                case rel =>
                  refine ⟨k + 1, HLT.out, by go_num, Lib.hid ?_, Lib.hid ?_⟩
                  · rw [HNX.out]; exact o9
                  · exact (((HO.out.below (below_box _ _)).below (below_box _ _))).grown2 (below_next (below_next HB.out (below_box _ _)) (below_box _ _)) (by have := HSZ.out; simp; omega) g9 (Nat.le_refl _)
                case measure => simp [intOf]; omega

        · obtain rfl : k = L := by omega
          have hx2 : ¬ (k : Int) < (k : Int) := by omega
          clear hlt
          have hlt2 : l.take k = l := by rw [← HL.out, List.take_length]
          have ho := HO.out
          rw [hlt2] at ho
          obtain ⟨q, hq⟩ : ∃ q, (endL n CC l).length = q := ⟨_, rfl⟩
          have hq1 : 1 ≤ q := by rw [← hq]; exact HOK2.out.2.2.1
          obtain ⟨gN, cN, w9, rfl, hw9, ⟨s0, s1⟩, H9⟩ := (HP3.out.below HB.out).lay hq hq1 (ho.less HP3.out.bx.b.size)
          have HQ := Lib.hid hq
          clear ho hq hq1 hlt2 c0
          obtain ⟨⟨t0, t1, t2, t3⟩, _, _⟩ := H9.out.1.t.cells
          obtain ⟨⟨r0, r1, r2, r3⟩, rf, W', hW', HF⟩ := H9.out.1.fin (.slice (some ⟨gN, 0, none⟩) q cN) M1 M2 M3
          go_wp2
          refine bodyPost_ret (results_rt2 rfl _ _ g1 rfl HF.out.1) rfl ⟨_, rfl, ⟨some ⟨gN, 0, none⟩, cN, ?_, ?_, HOK2.out⟩, HF.out.2.1⟩
          · unfold rtabV
            show _ = Value.agg #[.slice _ (endL n CC l).length cN, .int .i64 M1, .int .i64 M2, .int .i64 M3]
            rw [HQ.out]
          · show OwnsR' B W' _ 6 (.slice _ (endL n CC l).length cN) _
            rw [HQ.out]
            exact (H9.out.2.less hB).kept HF.out.2.2 (.inr (by intro e; have e9 : gN = g1 := Option.some.inj e; have h9 := H9.out.2.apartT H9.out.1.r (by decide); exact h9 (by rw [e9]; rfl)))
end Go.Proofs.Ytnengblmcfiajaa
