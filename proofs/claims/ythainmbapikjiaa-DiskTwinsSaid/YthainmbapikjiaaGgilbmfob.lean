/- The document's disk: crashed. -/
import Derived.Test.YthainmbapikjiaaGfmmdidnb
import Derived.Test.YthainmbapikjiaaGkgojahoh
namespace Go.Proofs.Ythainmbapikjiaa
open Go.RowKit Go.Sort
set_option linter.unusedVariables false
set_option linter.unusedSimpArgs false
set_option maxRecDepth 100000

theorem five_heap {w : World} {g : Nat} {x0 x1 x2 x3 x4 : Value} {t : TypeId} (a b c d e : Value) (h : w.heap[g]? = some (.cells #[x0, x1, x2, x3, x4] t (0, 0))) :
    (((((w.setCell ⟨g, 0, none⟩ a).setCell ⟨g, 1, none⟩ b).setCell ⟨g, 2, none⟩ c).setCell ⟨g, 3, none⟩ d).setCell ⟨g, 4, none⟩ e).heap[g]? = some (.cells #[a, b, c, d, e] t (0, 0)) := by
  have h1 := heap_setCell_same w g 0 _ _ a h
  have h2 := heap_setCell_same _ g 1 _ _ b h1
  have h3 := heap_setCell_same _ g 2 _ _ c h2
  have h4 := heap_setCell_same _ g 3 _ _ d h3
  exact heap_setCell_same _ g 4 _ _ e h4
theorem size_wrR : (Try.prog.info? 41).map (·.size) = some 129 := by kernel_rfl
theorem row_wrR : ∃ d, Try.prog.underlying 41 = some d ∧ d.isRow = true := by
  cases h : Try.prog.underlying 41 with
  | none => exact absurd h (by decide)
  | some d =>
    refine ⟨d, rfl, ?_⟩
    have : (Try.prog.underlying 41).map (·.isRow) = some true := by kernel_rfl
    rw [h] at this
    simpa using this
theorem wpList_slice_writeR {w : World} {ops : Array Oper} {rest : List Oper} {o : Oper} {a : Act} {Q : Exit → Act → World → Prop} (hgd : o.guard = none) (x : Operand)
    (ho : o.op = .buildSlice 26 1 #[(0, x)]) (p : Nat × List Nat) (hx : a.eval x = .agg (wrV p).toArray) (hs : p.2.length = 128)
    (h : wpList Try.prog ops Q rest (a.put o.dst (.slice (some ⟨w.heap.size, 0, none⟩) 1 1)) (w.alloc (.cells (wrV p).toArray 41))) : wpList Try.prog ops Q (o :: rest) a w :=
  wpList_plain hgd fun K hK => by
    unfold Oper.wp execOp
    have e : ((#[(0, x)] : Array (Nat × Operand)).map fun (i, x) => (i, a.eval x)) = #[(0, Value.agg (wrV p).toArray)] := by simp [hx]
    simp only [ho, Sem.run_bind, e, slice_writeR p hs w, Result.andThen_ok]
    exact hK _ _ h
theorem keeps_mem {C : List (Nat × List Nat)} {ks : List Bool} {k : Nat} {p : Nat × List Nat} (h : p ∈ keepsZ ((C.zip ks).take k)) : p ∈ C := by
  unfold keepsZ at h
  rw [List.mem_filterMap] at h
  obtain ⟨⟨q, b⟩, hq, he⟩ := h
  have h1 : q ∈ C := (List.of_mem_zip (List.mem_of_mem_take hq)).1
  cases b <;> simp at he
  rw [← he]
  exact h1
theorem keeps_len (C : List (Nat × List Nat)) (ks : List Bool) (k : Nat) : (keepsZ ((C.zip ks).take k)).length ≤ C.length := by
  unfold keepsZ
  refine Nat.le_trans (List.length_filterMap_le _ _) ?_
  rw [List.length_take, List.length_zip]
  omega
set_option maxHeartbeats 1000000 in
theorem rcrash_is {B : Nat} {w : World} {D : DiskD} {v : Value} (h : RefIs B w D v) (hB : B ≤ w.heap.size) (hok : D.ok) (a : Option Addr) (len cap : Nat) (ks : List Bool) (hk : ReadsB w a len ks) (hl : len ≤ 9223372036854775807) : Calls Try.prog 63 #[v, .slice a len cap] w fun e w' => ∃ x, e = .returned x ∧ RefIs B w' (crashD D ks) x ∧ Below w.heap.size w w' := by
  obtain ⟨sa, sc, qa, qc, rfl, h1, h2⟩ := h
  obtain ⟨r1, l1, c1⟩ := owns_room h1
  obtain ⟨r2, l2, c2⟩ := owns_room h2
  have hcl : D.cache.length ≤ 1000000 := hok.2.2.2.2.1
  have hoz : ∀ k, OkZ D.secs.length (keepsZ ((D.cache.zip ks).take k)) := fun k p hp => ⟨(hok.2.1 p (keeps_mem hp)).1, (hok.2.1 p (keeps_mem hp)).2.1⟩
  have HLAY := Lib.hid (fun (W : World) (hW : Below w.heap.size w W) (k : Nat) (la : Option Addr) (lc : Nat) (hr : ReadsR W la 129 (rowsW (keepsZ ((D.cache.zip ks).take k)))) (hc : (keepsZ ((D.cache.zip ks).take k)).length ≤ lc) (dead : Bool) (arm dn : Int) => rlay_is sa sc qa D.cache.length qc dead arm dn D.secs (keepsZ ((D.cache.zip ks).take k)) la lc W (r1.below hW) hr (hoz k) hok.2.2.1 hok.2.2.2.1 (Nat.le_trans (keeps_len _ _ _) hcl) hc)
  have HEND : Hid (∀ (w' : World) (x : Option Addr) (c : Nat), OwnsR' w.heap.size w' 39 128 (.slice x D.secs.length c) (secR (settles (keepsZ (D.cache.zip ks)) D.secs)) → RefIs B w' (crashD D ks) (refV x D.secs.length c none 0 0 false (-1) D.deeds)) := Lib.hid (fun w' x c ho => ⟨x, c, none, 0, by unfold crashD; dsimp only; rw [settles_len]; rfl, by unfold crashD; dsimp only; rw [settles_len]; exact ho.less hB, OwnsR'.nil _ _ _ _⟩)
  have HK := Lib.hid hk
  have HR2 := Lib.hid r2
  have HC8 : Hid (∀ p ∈ D.cache, p.2.length = 128) := Lib.hid (fun p hp => (hok.2.1 p hp).2.1)
  obtain ⟨P, hP⟩ : ∃ P : Ending → World → Prop, (fun e w' => ∃ x, e = .returned x ∧ RefIs B w' (crashD D ks) x ∧ Below w.heap.size w w') = P := ⟨_, rfl⟩
  have HPO : Hid (∀ (w' : World) (x : Value), RefIs B w' (crashD D ks) x → Below w.heap.size w w' → P (.returned x) w') := Lib.hid (fun w' x h b => by rw [← hP]; exact ⟨x, rfl, h, b⟩)
  rw [hP]
  obtain ⟨C, hC⟩ : ∃ x, D.cache = x := ⟨_, rfl⟩
  rw [hC] at HLAY HEND HR2 HC8 hcl ⊢
  obtain ⟨m, hm⟩ : ∃ x, C.length = x := ⟨_, rfl⟩
  have HM := Lib.hid hm
  rw [hm] at HLAY hcl ⊢
  have hks : ks.length = len := hk.1
  have HKL := Lib.hid hks
  generalize D.secs.length = n at *
  generalize armI D = ai at *
  generalize (D.deeds : Int) = dn at *
  generalize D.dead = dd at *
  clear h1 h2 r1 r2 l1 l2 c1 c2 hoz hP hC hm hk hok hks
  unfold refV at *
  go_enter Try.func63, Try.ntmps63
  obtain ⟨w2, hw2⟩ : ∃ x, (w.alloc (.cells #[.slice sa n sc, .slice qa m qc, .bool dd, .int .i64 ai, .int .i64 dn] 28)).alloc (.cells #[.slice none 0 0, .slice none 0 0, .bool false, .int .i64 0, .int .i64 0] 28) = x := ⟨_, rfl⟩
  have q := two_cells (Below.refl _ ((w.alloc (.cells #[.slice sa n sc, .slice qa m qc, .bool dd, .int .i64 ai, .int .i64 dn] 28)).alloc (.cells #[.slice none 0 0, .slice none 0 0, .bool false, .int .i64 0, .int .i64 0] 28)))
  rw [hw2] at q
  obtain ⟨kb, n0, n1, hsz⟩ := q
  have KB := Lib.hid kb
  obtain ⟨b0, hb0⟩ : ∃ x, w.heap.size = x := ⟨_, rfl⟩
  rw [hb0] at n0 n1 hsz
  have HB0 := Lib.hid hb0
  have N0 := Lib.hid n0
  have N1 := Lib.hid n1
  obtain ⟨b2, hb2⟩ : ∃ x, w2.heap.size = x := ⟨_, rfl⟩
  have HB2 := Lib.hid hb2
  rw [hb2] at hsz
  clear n0 n1 kb hb2
  go_wp2_with fail
  clear hw2
  go_loopw [5, 6] (fun lv i wr => ∃ k : Nat, k ≤ m ∧ k ≤ len ∧ i = .int .i64 (k : Int) ∧ Hid (Below b2 w2 wr) ∧ Hid (OwnsR' b2 wr 41 129 lv (rowsW (keepsZ ((C.zip ks).take k))))) (fun _ i _ => m - (intOf i).toNat)
  case atStart => exact ⟨0, Nat.zero_le _, Nat.zero_le _, rfl, Lib.hid (Below.refl _ _), Lib.hid (OwnsR'.nil _ _ _ _)⟩
  case round =>
    obtain ⟨k, hkm, hkl, rfl, KR, OR⟩ := hrel
    have n0 := (KR.out.block b0 (by omega)).trans N0.out
    have x1 : wr.cell? ⟨b0, 1, none⟩ = some (.slice qa m qc) := cell_of_row n0 1
    clear n0
    by_cases hlt : k < m ∧ k < len
    · obtain ⟨hlt1, hlt2⟩ := hlt
      obtain ⟨⟨pa, ps⟩, hp⟩ : ∃ p, C[k]? = some p := ⟨_, List.getElem?_eq_getElem (by rw [HM.out]; exact hlt1)⟩
      obtain ⟨kp, hkp⟩ : ∃ b, ks[k]? = some b := ⟨_, List.getElem?_eq_getElem (by rw [HKL.out]; exact hlt2)⟩
      have hps : ps.length = 128 := HC8.out _ (List.mem_of_getElem? hp)
      have hrow : (rowsW C)[k]? = some (wrV (pa, ps)) := by unfold rowsW; rw [List.getElem?_map, hp]; rfl
      have kall : Below w.heap.size w wr := KB.out.trans (KR.out.mono (by have := HB0.out; omega))
      obtain ⟨qb, qo, rfl, hqb, hc⟩ := (HR2.out.below kall).row hrow
      have d1 : wr.rangeAt qb (qo + k * 129) (wrV (pa, ps)) := fun i v hv => by have := hc i v hv; rwa [← Nat.add_assoc] at this
      obtain ⟨kb1, ko, rfl, hkb, hkc⟩ : ∃ b off, a = some ⟨b, off, none⟩ ∧ b < w.heap.size ∧ ∀ i, i < len → w.cell? ⟨b, off + i, none⟩ = some (.bool (ks.getD i false)) := by
        rcases HK.out.2 with h0 | h0
        · rw [h0] at hkp; cases hkp
        · exact h0
      have dk : wr.cell? ⟨kb1, ko + k, none⟩ = some (.bool kp) := by
        have h9 := hkc k hlt2
        rw [show ks.getD k false = kp from by simp [List.getD, hkp]] at h9
        exact (kall.cell (p := ⟨kb1, ko + k, none⟩) hkb).trans h9
      have HTK := Lib.hid (zip_take_succ hp hkp)
      have hx0 : (0 : Int) ≤ (k : Int) := by omega
      have hx1 : (k : Int) < (m : Int) := by omega
      have hx2 : (k : Int) < (len : Int) := by omega
      have HLT := Lib.hid hlt1
      have HLT2 := Lib.hid hlt2
      have HPS := Lib.hid hps
      have hkm2 : k ≤ 1000000 := by omega
      have HKN : Hid ((keepsZ ((C.zip ks).take k)).length ≤ 1000000) := Lib.hid (Nat.le_trans (keeps_len _ _ _) (by rw [HM.out]; exact hcl))
      have HSB2 : Hid (b2 ≤ wr.heap.size) := Lib.hid (by have := KR.out.size; have := HB2.out; omega)
      clear hc hrow hp hkp hlt1 hlt2 hqb hps hkc hkb kall
      cases kp with
      | true =>
        obtain ⟨d9, hu, hdr⟩ := row_wrR
        have hsi : (Try.prog.info? 41).map (·.size) = some (wrV (pa, ps)).length := by rw [wrV_size, HPS.out]; exact size_wrR
        have nW := heap_alloc_new wr (.cells (wrV (pa, ps)).toArray 41)
        have o2 := OR.out.alloc (.cells (wrV (pa, ps)).toArray 41)
        have k2 := KR.out.alloc HSB2.out (.cells (wrV (pa, ps)).toArray 41)
        obtain ⟨w3, hw3⟩ : ∃ x, wr.alloc (.cells (wrV (pa, ps)).toArray 41) = x := ⟨_, rfl⟩
        have hs3 : w3.heap.size = wr.heap.size + 1 := by rw [← hw3]; simp
        obtain ⟨g7, hg7⟩ : ∃ x, wr.heap.size = x := ⟨_, rfl⟩
        rw [hw3] at nW o2 k2
        rw [hg7] at nW hs3
        have O2 := Lib.hid o2
        have NW := Lib.hid nW
        have K2 := Lib.hid k2
        have L3 : Hid (b2 ≤ w3.heap.size) := Lib.hid (by have := HSB2.out; omega)
        clear nW o2 k2 hs3
        have HLR : Hid ((rowsW (keepsZ ((C.zip ks).take k))).length ≤ 1000000) := Lib.hid (by unfold rowsW; rw [List.length_map]; exact HKN.out)
        go_wp2_with (first
          | (refine wpList_load_mid rfl 41 _ rfl qb (qo + k * 129) rfl (wrV (pa, ps)) d9 d1 hu hdr hsi ?_)
          | (refine wpList_slice_writeR rfl _ rfl (pa, ps) rfl HPS.out ?_; rw [hw3, hg7])
          | (at_builtin; refine wpList_append_row_at rfl _ _ 26 rfl b2 41 _ 129 136 Try.underlying26 wrR_info rfl (by decide) u5 _ rfl O2.out g7 1 (wrV (pa, ps)) rfl (by rw [wrV_size, HPS.out]) (fun j u hu => (cell_of_row NW.out j).trans (by rw [List.getElem?_toArray]; exact hu)) (wrV_oneC _) (by have := HLR.out; omega) (by have := HLR.out; unfold maxLen; omega) L3.out ?_; intro v4 w4 o4 g4 _; have O4 := Lib.hid o4; have K4 := Lib.hid (K2.out.grown g4 L3.out (fun j hj => (O2.out.lt j hj).1)); clear o4 g4)
          | fail)
        have h1 := HLT.out
        have h2 := HLT2.out
        go_roundw
        case rel =>
          refine ⟨k + 1, HLT.out, HLT2.out, by go_num, K4, ?_⟩
          show OwnsR' _ _ _ _ _ _
          rw [HTK.out, keepsZ_snoc]
          have e9 : rowsW (keepsZ ((C.zip ks).take k) ++ [(pa, ps)]) = rowsW (keepsZ ((C.zip ks).take k)) ++ [wrV (pa, ps)] := by unfold rowsW; rw [List.map_append]; rfl
          rw [if_pos rfl, e9]
          exact O4.out
        case measure => simp [intOf]; omega
      | false =>
        go_wp2_with fail
        have h1 := HLT.out
        have h2 := HLT2.out
        go_roundw
        case rel =>
          refine ⟨k + 1, HLT.out, HLT2.out, by go_num, KR, ?_⟩
          show OwnsR' _ _ _ _ _ _
          rw [HTK.out, keepsZ_snoc, if_neg (by decide), List.append_nil]
          exact OR.out
        case measure => simp [intOf]; omega
    · have hzk : (C.zip ks).take k = C.zip ks := List.take_of_length_le (by rw [List.length_zip, HM.out, HKL.out]; omega)
      have HZK := Lib.hid hzk
      obtain ⟨la, lc, e5, hrl, hlc, _⟩ := OR.out.reads
      have hrw : (rowsW (keepsZ ((C.zip ks).take k))).length = (keepsZ ((C.zip ks).take k)).length := by unfold rowsW; rw [List.length_map]
      rw [hrw] at e5 hlc
      subst e5
      have kall : Below w.heap.size w wr := KB.out.trans (KR.out.mono (by have := HB0.out; omega))
      have hlay := HLAY.out wr kall k la lc hrl hlc dd ai dn
      obtain ⟨zl, hzl⟩ : ∃ x, (keepsZ ((C.zip ks).take k)).length = x := ⟨_, rfl⟩
      rw [hzl] at hlay ⊢
      rw [hzk] at hlay
      have HL9 := Lib.hid hlay
      have KA := Lib.hid kall
      have n1 := (KR.out.block (b0 + 1) (by omega)).trans N1.out
      have n0 := (KR.out.block b0 (by omega)).trans N0.out
      have y0 : wr.cell? ⟨b0, 0, none⟩ = some (.slice sa n sc) := cell_of_row n0 0
      have y2 : wr.cell? ⟨b0, 2, none⟩ = some (.bool dd) := cell_of_row n0 2
      have y3 : wr.cell? ⟨b0, 3, none⟩ = some (.int .i64 ai) := cell_of_row n0 3
      have y4 : wr.cell? ⟨b0, 4, none⟩ = some (.int .i64 dn) := cell_of_row n0 4
      have M0 := Lib.hid n0
      have M1 := Lib.hid n1
      have LW : Hid (b0 + 2 ≤ wr.heap.size) := Lib.hid (by have := KR.out.size; have := HB2.out; omega)
      have hcase : ((k : Int) < (m : Int) ∧ ¬ (k : Int) < (len : Int)) ∨ ¬ (k : Int) < (m : Int) := by omega
      clear hzk hrl hlc hrw hzl hlay kall n0 n1 hlt OR HLAY HR2 HK
      rcases hcase with ⟨hx1, hx2⟩ | hx1
      all_goals
        go_wp2_with fail
        refine HL9.out.mono ?_
        rintro e w3 ⟨a3, c3, rfl, o3, b3⟩
        unfold refV
        have m0 := (b3.block b0 (Array.getElem?_eq_some_iff.1 M0.out).1).trans M0.out
        have m1 := (b3.block (b0 + 1) (Array.getElem?_eq_some_iff.1 M1.out).1).trans M1.out
        have O3 := Lib.hid o3
        have K3 := Lib.hid (KA.out.trans (b3.mono KA.out.size))
        have g4 := (five_set (.slice a3 n c3) (.slice none 0 0) (.bool dd) (.int .i64 ai) (.int .i64 dn) m0).2
        have m04 := five_heap (.slice a3 n c3) (.slice none 0 0) (.bool dd) (.int .i64 ai) (.int .i64 dn) m0
        have q0 := cell_of_row m0 0
        have q1 := cell_of_row m0 1
        have q2 := cell_of_row m0 2
        have q3 := cell_of_row m0 3
        have q4 := cell_of_row m0 4
        have fq := fun i => frozen_of_row w3 b0 i _ _ m0
        obtain ⟨w4, hw4⟩ : ∃ x, (((((w3.setCell ⟨b0, 0, none⟩ (.slice a3 n c3)).setCell ⟨b0, 1, none⟩ (.slice none 0 0)).setCell ⟨b0, 2, none⟩ (.bool dd)).setCell ⟨b0, 3, none⟩ (.int .i64 ai)).setCell ⟨b0, 4, none⟩ (.int .i64 dn)) = x := ⟨_, rfl⟩
        rw [hw4] at m04 g4
        have r2 : w4.cell? ⟨b0, 2, none⟩ = some (.bool dd) := cell_of_row m04 2
        have fr2 := frozen_of_row w4 b0 2 _ _ m04
        have m05 := heap_setCell_same w4 b0 2 _ _ (.bool false) m04
        obtain ⟨w5, hw5⟩ : ∃ x, w4.setCell ⟨b0, 2, none⟩ (.bool false) = x := ⟨_, rfl⟩
        rw [hw5] at m05
        have r3 : w5.cell? ⟨b0, 3, none⟩ = some (.int .i64 ai) := cell_of_row m05 3
        have fr3 := frozen_of_row w5 b0 3 _ _ m05
        have m06 := heap_setCell_same w5 b0 3 _ _ (.int .i64 (-1)) m05
        obtain ⟨w6, hw6⟩ : ∃ x, w5.setCell ⟨b0, 3, none⟩ (.int .i64 (-1)) = x := ⟨_, rfl⟩
        rw [hw6] at m06
        have s0 : w6.cell? ⟨b0, 0, none⟩ = some (.slice a3 n c3) := cell_of_row m06 0
        have s1 : w6.cell? ⟨b0, 1, none⟩ = some (.slice none 0 0) := cell_of_row m06 1
        have s2 : w6.cell? ⟨b0, 2, none⟩ = some (.bool false) := cell_of_row m06 2
        have s3 : w6.cell? ⟨b0, 3, none⟩ = some (.int .i64 (-1)) := cell_of_row m06 3
        have s4 : w6.cell? ⟨b0, 4, none⟩ = some (.int .i64 dn) := cell_of_row m06 4
        have g6 : w3.grownBy w6 (some b0) := by
          have tr := fun (X Y Z : World) (h : X.grownBy Y (some b0)) (k : Y.grownBy Z (some b0)) => h.andThen k (fun j hj => by cases hj; exact Or.inr rfl)
          refine tr _ _ _ (tr _ _ _ g4 (?_ : w4.grownBy w5 (some b0))) ?_
          · rw [← hw5]; exact grown_setCellD w4 ⟨b0, 2, none⟩ _
          · rw [← hw6]; exact grown_setCellD w5 ⟨b0, 3, none⟩ _
        have m16 := (g6.block (b0 + 1) (Array.getElem?_eq_some_iff.1 m1).1 (by intro e; have : b0 + 1 = b0 := Option.some.inj e; omega)).trans m1
        have F7 := Lib.hid (five_set (.slice a3 n c3) (.slice none 0 0) (.bool false) (.int .i64 (-1)) (.int .i64 dn) m16)
        have z0 := cell_of_row m16 0
        have z1 := cell_of_row m16 1
        have z2 := cell_of_row m16 2
        have z3 := cell_of_row m16 3
        have z4 := cell_of_row m16 4
        have ff := fun i => frozen_of_row w6 (b0 + 1) i _ _ m16
        have hown : ∀ j, (Value.slice a3 n c3).ownBlock = some j → b0 + 2 ≤ j := fun j hj => by have := (O3.out.lt j hj).1; have := LW.out; omega
        have O6 := Lib.hid (O3.out.kept g6 (by
          rcases ho : (Value.slice a3 n c3).ownBlock with _ | j
          · exact .inl rfl
          · right; intro e; have h1 := hown j ho; have : j = b0 := Option.some.inj e; omega))
        have HOW := Lib.hid hown
        have K6 : Hid (Below b0 w w6) := Lib.hid (by have k := K3.out; rw [HB0.out] at k; exact k.grown g6 (by have := k.size; have := HB0.out; omega) (fun i hi => by obtain rfl := Option.some.inj hi; exact Nat.le_refl _))
        clear m0 m1 m04 m05 m06 m16 g4 g6 o3 b3 hown
        go_wp2
        refine bodyPost_ret (results_five rfl _ _ (b0 + 1) rfl F7.out.1) rfl ?_
        refine HPO.out _ _ (HEND.out _ a3 c3 ?_) ?_
        · refine (O6.out.kept F7.out.2 ?_).less (by have := LW.out; have := HB0.out; omega)
          rcases ho : (Value.slice a3 n c3).ownBlock with _ | j
          · exact .inl rfl
          · right; intro e; have h1 := HOW.out j ho; have : j = b0 + 1 := Option.some.inj e; omega
        · rw [HB0.out]
          exact K6.out.grown F7.out.2 (by have := K6.out.size; have := HB0.out; omega) (fun i hi => by obtain rfl := Option.some.inj hi; omega)
end Go.Proofs.Ythainmbapikjiaa
