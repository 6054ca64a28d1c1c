/- The law of inodes: what it needs. -/
import Derived.Test.YtgakidimipipeaaGreatGcgabeaeg
namespace Go.Proofs.YtgakidimipipeaaGreat
open Go.ChangeShapes Go.WideShapes Go.RowKit Go.Deep Go.Sort
set_option linter.unusedVariables false
set_option linter.unusedSimpArgs false
set_option maxRecDepth 100000

theorem stO_lows : ∀ (l z : List FldD), l.map (fun x => (x.kind, x.width)) = z.map (fun x => (x.kind, x.width)) → (∀ x ∈ l, u64of x.z < 256 ^ x.width ∧ ((u64of x.z : Nat) : Int) = x.z) → stO (.rd (lowsU l)) z = l
  | [], [], _, _ => rfl
  | [], _ :: _, h, _ => by simp at h
  | _ :: _, [], h, _ => by simp at h
  | x :: l, y :: z, h, hk => by
    simp only [List.map_cons, List.cons.injEq, Prod.mk.injEq] at h
    obtain ⟨⟨h1, h2⟩, h3⟩ := h
    obtain ⟨k1, k2⟩ := hk x (by simp)
    have e : lowsU (x :: l) = low (u64of x.z) x.width ++ lowsU l := by unfold lowsU; rw [List.flatMap_cons]
    rw [e, stO_rd_cons (by rw [List.length_append, low_length, ← h2]; omega), ← h2, List.take_left' (low_length _ _), List.drop_left' (low_length _ _), stO_lows l z h3 fun v hv => hk v (by simp [hv]), le_low _ _ k1, k2, ← h1]
theorem shape_ino {l : List FldD} (hl : IsInode l) : l.map (fun x => (x.kind, x.width)) = zeroI.map (fun x => (x.kind, x.width)) := by
  obtain ⟨z0, z1, z2, z3, z4, z5, z6, z7, z8, z9, z10, z11, z12, z13, z14, rfl, _⟩ := ino_list hl
  rfl
theorem readI_isInode {s : List Nat} (hb : Bytes s) : IsInode (readI s).1 := by
  unfold readI
  split
  · exact rdI_is (bO_bytes hb)
  · exact zeroI_is
theorem readI_err (s : List Nat) : (readI s).2 = 0 ∨ (readI s).2 = 21 := by unfold readI; split <;> simp
theorem writeI_err (l : List FldD) : ((writeI l).2 = 0 ∧ okI l = true) ∨ ((writeI l).2 = 1 ∧ okI l = false) := by
  have h : (writeI l).2 = 0 ∨ (writeI l).2 = 1 := by unfold writeI; split <;> simp
  unfold okI
  rcases h with h | h
  · exact .inl ⟨h, by rw [h]; rfl⟩
  · exact .inr ⟨h, by rw [h]; rfl⟩
theorem writeI_bytes {l : List FldD} (hl : IsInode l) : Bytes (writeI l).1 := by
  cases hu : mayI l with
  | false => rw [writeI_no hu]; exact noughts_byt
  | true =>
    rw [(writeI_up hl hu).1]
    unfold sealedL
    split
    · refine sealL_bytes (by decide) (lowsF_byt _) ?_
      rw [lowsF_len, inode_widths hl]
      decide
    · exact noughts_byt
theorem readI_writeI {l : List FldD} (hl : IsInode l) (h0 : (writeI l).2 = 0) : readI (writeI l).1 = (l, 0) := by
  by_cases hn : mayI l = false ∨ wrF l = true
  · have e : writeI l = (noughts, 1) := if_pos hn
    rw [e] at h0
    exact absurd h0 (by decide)
  · have e : writeI l = (sealL 2 (wrB l), 0) := if_neg hn
    have hr : roomU l := by
      apply Classical.byContradiction
      intro h
      exact hn (.inr (wr_bad h))
    obtain ⟨_, hw⟩ := wr_room hr
    have hfl := flds_ino hl
    have h55 : (wrB l).length = 55 := by rw [wrB_length, inode_widths hl]
    have hrd : rdI (wrB l) = l := by
      rw [hw]
      refine stO_lows l zeroI (shape_ino hl) fun x hx => ⟨hr x hx, ?_⟩
      have h1 := (okF_iff (hfl x hx)).2 (hr x hx)
      obtain ⟨_, _, h3⟩ := hfl x hx
      have h2 : 0 ≤ x.z := h1.1
      unfold u64of
      unfold I64 at h3
      omega
    have hbO : bO (sealL 2 (wrB l)) = wrB l := bO_seal (by decide) (by omega)
    rw [e]
    unfold readI
    show (if (writeI (rdI (bO (sealL 2 (wrB l))))).2 = 0 ∧ (writeI (rdI (bO (sealL 2 (wrB l))))).1 = sealL 2 (wrB l) then _ else _) = _
    rw [hbO, hrd, e, if_pos ⟨rfl, rfl⟩]
theorem rino_of_trod {H : Type} {enc : TypeId × Value → H} {W : World} {m : Nat} {cs : List Value} {y : DataW H × List MemPlace} (hl : cs.length = 15)
    (h : DataW.trod enc Tryz.prog W 0 (fun _ => true) true m 25 cs = some y) : ∃ z0 z1 z2 z3 z4 z5 z6 z7 z8 z9 z10 z11 z12 z13 z14 : Int, cs = [.int .u32 z0, .int .u32 z1, .int .i64 z2, .int .i64 z3, .int .u32 z4, .int .i64 z5, .int .i64 z6, .int .i64 z7, .int .i64 z8, .int .i64 z9, .int .i64 z10, .int .i64 z11, .int .i64 z12, .int .i64 z13, .int .i64 z14] ∧ (0 ≤ z0 ∧ z0 < 4294967296) ∧ (0 ≤ z1 ∧ z1 < 4294967296) ∧ I64 z2 ∧ I64 z3 ∧ (0 ≤ z4 ∧ z4 < 4294967296) ∧ I64 z5 ∧ I64 z6 ∧ I64 z7 ∧ I64 z8 ∧ I64 z9 ∧ I64 z10 ∧ I64 z11 ∧ I64 z12 ∧ I64 z13 ∧ I64 z14 := by
  match cs, hl with
  | [v0, v1, v2, v3, v4, v5, v6, v7, v8, v9, v10, v11, v12, v13, v14], _ =>
    obtain ⟨ys, n', _, _, _, hyl, hf⟩ := DataW.trod_struct Tryz.underlying25 h
    have get : ∀ j, j < 8 → ∃ u, ys[j]? = some u := fun j hj => ⟨ys[j]'(by rw [hyl]; exact hj), List.getElem?_eq_getElem _⟩
    obtain ⟨y0, e0⟩ := get 0 (by decide)
    have f0 := (hf 0 _ rfl).trans e0
    replace f0 : DataW.trod enc Tryz.prog W 0 (fun _ => true) true n' 22 [v0] = some y0 := f0
    obtain ⟨z0, gz0, _, wf0⟩ := DataW.trod_int Tryz.underlying22 f0
    have hv0 : v0 = .int .u32 z0 := by simpa using gz0
    obtain ⟨y1, e1⟩ := get 1 (by decide)
    have f1 := (hf 1 _ rfl).trans e1
    replace f1 : DataW.trod enc Tryz.prog W 0 (fun _ => true) true n' 22 [v1] = some y1 := f1
    obtain ⟨z1, gz1, _, wf1⟩ := DataW.trod_int Tryz.underlying22 f1
    have hv1 : v1 = .int .u32 z1 := by simpa using gz1
    obtain ⟨y2, e2⟩ := get 2 (by decide)
    have f2 := (hf 2 _ rfl).trans e2
    replace f2 : DataW.trod enc Tryz.prog W 0 (fun _ => true) true n' 3 [v2] = some y2 := f2
    obtain ⟨z2, gz2, _, wf2⟩ := DataW.trod_int Tryz.underlying3 f2
    have hv2 : v2 = .int .i64 z2 := by simpa using gz2
    obtain ⟨y3, e3⟩ := get 3 (by decide)
    have f3 := (hf 3 _ rfl).trans e3
    replace f3 : DataW.trod enc Tryz.prog W 0 (fun _ => true) true n' 3 [v3] = some y3 := f3
    obtain ⟨z3, gz3, _, wf3⟩ := DataW.trod_int Tryz.underlying3 f3
    have hv3 : v3 = .int .i64 z3 := by simpa using gz3
    obtain ⟨y4, e4⟩ := get 4 (by decide)
    have f4 := (hf 4 _ rfl).trans e4
    replace f4 : DataW.trod enc Tryz.prog W 0 (fun _ => true) true n' 22 [v4] = some y4 := f4
    obtain ⟨z4, gz4, _, wf4⟩ := DataW.trod_int Tryz.underlying22 f4
    have hv4 : v4 = .int .u32 z4 := by simpa using gz4
    obtain ⟨y13, e13⟩ := get 6 (by decide)
    have f13 := (hf 6 _ rfl).trans e13
    replace f13 : DataW.trod enc Tryz.prog W 0 (fun _ => true) true n' 3 [v13] = some y13 := f13
    obtain ⟨z13, gz13, _, wf13⟩ := DataW.trod_int Tryz.underlying3 f13
    have hv13 : v13 = .int .i64 z13 := by simpa using gz13
    obtain ⟨y14, e14⟩ := get 7 (by decide)
    have f14 := (hf 7 _ rfl).trans e14
    replace f14 : DataW.trod enc Tryz.prog W 0 (fun _ => true) true n' 3 [v14] = some y14 := f14
    obtain ⟨z14, gz14, _, wf14⟩ := DataW.trod_int Tryz.underlying3 f14
    have hv14 : v14 = .int .i64 z14 := by simpa using gz14
    obtain ⟨yd, ed⟩ := get 5 (by decide)
    have fd := (hf 5 _ rfl).trans ed
    replace fd : DataW.trod enc Tryz.prog W 0 (fun _ => true) true n' 23 [v5, v6, v7, v8, v9, v10, v11, v12] = some yd := fd
    obtain ⟨xs, m', _, _, _, hxs, hel⟩ := DataW.trod_array Tryz.underlying23 fd
    have hce : Tryz.prog.cellsOf 3 = 1 := by kernel_rfl
    have gx : ∀ j, j < 8 → ∃ u, xs[j]? = some u := fun j hj => ⟨xs[j]'(by rw [hxs]; exact hj), List.getElem?_eq_getElem _⟩
    obtain ⟨y5, hy5⟩ := gx 0 (by decide)
    have e5 := hel 0 (by omega)
    rw [hce, hy5] at e5
    obtain ⟨z5, gz5, _, wf5⟩ := DataW.trod_int Tryz.underlying3 (by simpa using e5)
    have hv5 : v5 = .int .i64 z5 := by simpa using gz5
    obtain ⟨y6, hy6⟩ := gx 1 (by decide)
    have e6 := hel 1 (by omega)
    rw [hce, hy6] at e6
    obtain ⟨z6, gz6, _, wf6⟩ := DataW.trod_int Tryz.underlying3 (by simpa using e6)
    have hv6 : v6 = .int .i64 z6 := by simpa using gz6
    obtain ⟨y7, hy7⟩ := gx 2 (by decide)
    have e7 := hel 2 (by omega)
    rw [hce, hy7] at e7
    obtain ⟨z7, gz7, _, wf7⟩ := DataW.trod_int Tryz.underlying3 (by simpa using e7)
    have hv7 : v7 = .int .i64 z7 := by simpa using gz7
    obtain ⟨y8, hy8⟩ := gx 3 (by decide)
    have e8 := hel 3 (by omega)
    rw [hce, hy8] at e8
    obtain ⟨z8, gz8, _, wf8⟩ := DataW.trod_int Tryz.underlying3 (by simpa using e8)
    have hv8 : v8 = .int .i64 z8 := by simpa using gz8
    obtain ⟨y9, hy9⟩ := gx 4 (by decide)
    have e9 := hel 4 (by omega)
    rw [hce, hy9] at e9
    obtain ⟨z9, gz9, _, wf9⟩ := DataW.trod_int Tryz.underlying3 (by simpa using e9)
    have hv9 : v9 = .int .i64 z9 := by simpa using gz9
    obtain ⟨y10, hy10⟩ := gx 5 (by decide)
    have e10 := hel 5 (by omega)
    rw [hce, hy10] at e10
    obtain ⟨z10, gz10, _, wf10⟩ := DataW.trod_int Tryz.underlying3 (by simpa using e10)
    have hv10 : v10 = .int .i64 z10 := by simpa using gz10
    obtain ⟨y11, hy11⟩ := gx 6 (by decide)
    have e11 := hel 6 (by omega)
    rw [hce, hy11] at e11
    obtain ⟨z11, gz11, _, wf11⟩ := DataW.trod_int Tryz.underlying3 (by simpa using e11)
    have hv11 : v11 = .int .i64 z11 := by simpa using gz11
    obtain ⟨y12, hy12⟩ := gx 7 (by decide)
    have e12 := hel 7 (by omega)
    rw [hce, hy12] at e12
    obtain ⟨z12, gz12, _, wf12⟩ := DataW.trod_int Tryz.underlying3 (by simpa using e12)
    have hv12 : v12 = .int .i64 z12 := by simpa using gz12
    exact ⟨z0, z1, z2, z3, z4, z5, z6, z7, z8, z9, z10, z11, z12, z13, z14, by simp [hv0, hv1, hv2, hv3, hv4, hv5, hv6, hv7, hv8, hv9, hv10, hv11, hv12, hv13, hv14], u32_of_wf' wf0, u32_of_wf' wf1, i64_of_wf wf2, i64_of_wf wf3, u32_of_wf' wf4, i64_of_wf wf5, i64_of_wf wf6, i64_of_wf wf7, i64_of_wf wf8, i64_of_wf wf9, i64_of_wf wf10, i64_of_wf wf11, i64_of_wf wf12, i64_of_wf wf13, i64_of_wf wf14⟩
theorem open_ino {H : Type} {enc : TypeId × Value → H} {W : World} {base : Nat} {v : Value} {d : DataW H} {pl : List MemPlace}
    (hok : Value.okWide Tryz.prog W .any base 25 v) (h : DataW.Trod enc Tryz.prog W 0 (fun _ => true) true 25 v d pl) : ∃ z0 z1 z2 z3 z4 z5 z6 z7 z8 z9 z10 z11 z12 z13 z14 : Int, v = .agg #[.int .u32 z0, .int .u32 z1, .int .i64 z2, .int .i64 z3, .int .u32 z4, .int .i64 z5, .int .i64 z6, .int .i64 z7, .int .i64 z8, .int .i64 z9, .int .i64 z10, .int .i64 z11, .int .i64 z12, .int .i64 z13, .int .i64 z14] ∧ (0 ≤ z0 ∧ z0 < 4294967296) ∧ (0 ≤ z1 ∧ z1 < 4294967296) ∧ I64 z2 ∧ I64 z3 ∧ (0 ≤ z4 ∧ z4 < 4294967296) ∧ I64 z5 ∧ I64 z6 ∧ I64 z7 ∧ I64 z8 ∧ I64 z9 ∧ I64 z10 ∧ I64 z11 ∧ I64 z12 ∧ I64 z13 ∧ I64 z14 := by
  obtain ⟨cs, rfl, hsz⟩ : ∃ cs, v = .agg cs ∧ cs.size = 15 := by
    unfold Value.okWide at hok
    rw [Tryz.underlying25] at hok
    obtain ⟨cs, h1, h2, _⟩ := hok
    exact ⟨cs, h1, h2.trans (by kernel_rfl)⟩
  obtain ⟨fuel, hf⟩ := h
  obtain ⟨l⟩ := cs
  obtain ⟨z0, z1, z2, z3, z4, z5, z6, z7, z8, z9, z10, z11, z12, z13, z14, e, k⟩ := rino_of_trod (cs := l) (by simpa using hsz) (by simpa [Value.cells] using hf)
  subst e
  exact ⟨z0, z1, z2, z3, z4, z5, z6, z7, z8, z9, z10, z11, z12, z13, z14, rfl, k⟩
theorem quiet_load_row {P : World → Prop} {o : Oper} {a : Act} {K : Act → Prop} (ty : TypeId) (x : Operand) (ho : o.op = .load ty x) (g off : Nat) (cs : List Value) (d : TypeDesc) (hx : a.eval x = .pointer (some ⟨g, off, none⟩))
    (hu : Tryz.prog.underlying ty = some d) (hd : d.isRow = true) (hi : (Tryz.prog.info? ty).map (·.size) = some cs.length) (hc : ∀ W, P W → W.rangeAt g off cs) (h : K (a.put o.dst (.agg cs.toArray))) : o.quiet Tryz.prog a P K :=
  ⟨.agg cs.toArray, fun W hW => by
    unfold Oper.quietAt execOp
    simp only [ho, hx]
    rw [Sem.run_bind, run_loadAt_mid W g off ty cs d (hc W hW) hu hd hi]
    exact ⟨rfl, rfl⟩, h⟩
theorem row_regrown {W : World} {g : Nat} {l : List FldD} {t : TypeId} (h : W.heap[g]? = some (.cells (cellsF l) t (0, 0))) : ∀ W', (∃ p : Regrown, W' = grow (redrawn W p.d) p.os) → W'.rangeAt g 0 (rowV l) := by
  rintro _ ⟨p, rfl⟩
  have hb := below_regrown W p.d p.os
  exact rowV_range ((hb.block g (Array.getElem?_eq_some_iff.1 h).1).trans h)
theorem rowV_ino (z0 z1 z2 z3 z4 z5 z6 z7 z8 z9 z10 z11 z12 z13 z14 : Int) : rowV [⟨.u32, 2, z0⟩, ⟨.u32, 4, z1⟩, ⟨.i64, 1, z2⟩, ⟨.i64, 4, z3⟩, ⟨.u32, 4, z4⟩, ⟨.i64, 4, z5⟩, ⟨.i64, 4, z6⟩, ⟨.i64, 4, z7⟩, ⟨.i64, 4, z8⟩, ⟨.i64, 4, z9⟩, ⟨.i64, 4, z10⟩, ⟨.i64, 4, z11⟩, ⟨.i64, 4, z12⟩, ⟨.i64, 4, z13⟩, ⟨.i64, 4, z14⟩] = [.int .u32 z0, .int .u32 z1, .int .i64 z2, .int .i64 z3, .int .u32 z4, .int .i64 z5, .int .i64 z6, .int .i64 z7, .int .i64 z8, .int .i64 z9, .int .i64 z10, .int .i64 z11, .int .i64 z12, .int .i64 z13, .int .i64 z14] := rfl
set_option maxHeartbeats 1600000 in
theorem run_neq_ino (z0 z1 z2 z3 z4 z5 z6 z7 z8 z9 z10 z11 z12 z13 z14 : Int) (w : World) : (binOp .neq 37 (.agg #[.int .u32 z0, .int .u32 z1, .int .i64 z2, .int .i64 z3, .int .u32 z4, .int .i64 z5, .int .i64 z6, .int .i64 z7, .int .i64 z8, .int .i64 z9, .int .i64 z10, .int .i64 z11, .int .i64 z12, .int .i64 z13, .int .i64 z14]) (.agg #[.int .u32 z0, .int .u32 z1, .int .i64 z2, .int .i64 z3, .int .u32 z4, .int .i64 z5, .int .i64 z6, .int .i64 z7, .int .i64 z8, .int .i64 z9, .int .i64 z10, .int .i64 z11, .int .i64 z12, .int .i64 z13, .int .i64 z14])).run Tryz.prog w = .ok (.bool false) w := by
  have h8 := run_eq8 (zs := [z5, z6, z7, z8, z9, z10, z11, z12]) rfl 9997 w
  have h8' : (Op.equalIn 9999 23 (.agg #[.int .i64 z5, .int .i64 z6, .int .i64 z7, .int .i64 z8, .int .i64 z9, .int .i64 z10, .int .i64 z11, .int .i64 z12]) (.agg #[.int .i64 z5, .int .i64 z6, .int .i64 z7, .int .i64 z8, .int .i64 z9, .int .i64 z10, .int .i64 z11, .int .i64 z12])).run Tryz.prog w = .ok true w := h8
  go_simp
end Go.Proofs.YtgakidimipipeaaGreat
