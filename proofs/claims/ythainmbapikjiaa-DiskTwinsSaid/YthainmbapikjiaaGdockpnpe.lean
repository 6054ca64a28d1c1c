/- The document's disk: a write. Printed by wip/gen/rput.py. -/
import Derived.Test.YthainmbapikjiaaGbfhmfkgj
import Derived.Test.YthainmbapikjiaaRowsOf
import Derived.Test.YthainmbapikjiaaGncdbjekm
import Derived.Test.YthainmbapikjiaaLast
namespace Go.Proofs.Ythainmbapikjiaa
open Go.RowKit Go.Sort
set_option linter.unusedVariables false
set_option linter.unusedSimpArgs false
set_option maxRecDepth 100000

def rowsW (l : List (Nat × List Nat)) : List (List Value) := l.map wrV
theorem wrR_info : (Try.prog.info? 41).map (fun i => (i.zero, i.size, i.bytes)) = some (some (.agg (wrV (0, noughts)).toArray), 129, 136) := by kernel_rfl
theorem wrR_place : ((match Try.prog.underlying 41 with | some (.struct fs) => fs.toList.mapM (fun f => (Try.prog.info? f.type).map fun i => (f.offset, i.size)) | _ => none) : Option (List (Nat × Nat))) = some [(0, 1), (1, 128)] := by kernel_rfl
theorem size_arr128 : (Try.prog.info? 39).map (·.size) = some 128 := by kernel_rfl
theorem row_arr128 : ∃ d, Try.prog.underlying 39 = some d ∧ d.isRow = true := by
  cases h : Try.prog.underlying 39 with
  | none => exact absurd h (by decide)
  | some d =>
    refine ⟨d, rfl, ?_⟩
    have : (Try.prog.underlying 39).map (·.isRow) = some true := by kernel_rfl
    rw [h] at this
    simpa using this
theorem build_writeR (n : Nat) (s : List Nat) (hs : s.length = 128) (w : World) : (Instr.build 41 #[(0, .int .i64 n), (1, .agg (cells s))]).run Try.prog w = .ok (.agg (wrV (n, s)).toArray) w := by
  refine run_build w _ _ _ ?_
  have h1 := wrR_info
  have h2 := wrR_place
  unfold Program.built
  cases hi : Try.prog.info? 41 with
  | none => simp [hi] at h1
  | some it =>
    simp only [hi, Option.map_some, Option.some.injEq, Prod.mk.injEq] at h1
    cases hu : Try.prog.underlying 41 with
    | none => simp [hu] at h2
    | some d =>
      rw [hu] at h2
      cases d <;> simp only [reduceCtorEq] at h2
      simp only [h1.1, h2]
      have hz : (wrV (0, noughts)).length = 129 := rfl
      have hc : (Value.agg (cells s)).cells.size = 128 := by simp [Value.cells, cells_size, hs]
      have hc1 : (Value.int .i64 n).cells = #[Value.int .i64 n] := rfl
      simp only [Instr.fill, List.getElem?_toArray, List.getElem?_cons_zero, List.getElem?_cons_succ, Value.cells, cells_size, hs, hz, List.size_toArray]
      rw [if_neg (by simp)]
      have e1 : Array.foldl (fun (cs : Array Value) (x : Value × Nat) => cs.setIfInBounds (0 + x.snd) x.fst) (wrV (0, noughts)).toArray (#[Value.int .i64 n]).zipIdx = (wrV (n, noughts)).toArray := by
        simp [wrV]
      rw [e1]
      simp only [List.size_toArray]
      rw [if_neg (by rw [wrV_size]; simp [show noughts.length = 128 from rfl])]
      congr 1
      have e : Array.foldl (fun (cs : Array Value) (x : Value × Nat) => cs.setIfInBounds (1 + x.snd) x.fst) (wrV (n, noughts)).toArray (cells s).zipIdx =
          ((s.map byteV).zipIdx 0).foldl (fun cs (p : Value × Nat) => cs.setIfInBounds (1 + p.2) p.1) (wrV (n, noughts)).toArray := by
        rw [← Array.foldl_toList]
        simp [cells]
      rw [e, fold_splice 1 (s.map byteV) 0 _ (by simp [hs, wrV_size]; decide)]
      apply Array.ext'
      have hn : noughts.length = 128 := rfl
      simp [wrV, hs, hn]
theorem slice_writeR (p : Nat × List Nat) (hs : p.2.length = 128) (w : World) : (Instr.buildSlice 26 1 #[(0, .agg (wrV p).toArray)]).run Try.prog w = .ok (.slice (some ⟨w.heap.size, 0, none⟩) 1 1) (w.alloc (.cells (wrV p).toArray 41)) := by
  obtain ⟨i0, hi, hz0, hz1, hz2⟩ := info_parts wrR_info
  refine run_buildSlice w _ 41 1 _ _ i0 _ Try.underlying26 hi hz0 (by rw [hz1]; decide) (by rw [hz1]; decide) ?_
  rw [hz1]
  have hl : (wrV p).length = 129 := by rw [wrV_size, hs]
  have hw := Great.fill_whole (s := 129) (by decide) [Value.agg (wrV p).toArray] ((Array.range (1 * 129)).map ((Value.agg (wrV (0, noughts)).toArray).cells[· % (Value.agg (wrV (0, noughts)).toArray).cells.size]!)) (by intro v hv; simp only [List.mem_singleton] at hv; subst hv; simp [Value.cells, hl]) (by simp)
  simpa [Value.cells] using hw
theorem yields_buildR {ops : Array Oper} {S : World → Prop} {o : Oper} {a : Act} (hw : Region.wanted o (yielded ops a.tmps) = true) (x y : Operand) (ho : o.op = .build 41 #[(0, x), (1, y)]) (n : Nat) (s : List Nat) (hx : a.eval x = .int .i64 (n : Int)) (hy : a.eval y = .agg (cells s)) (hs : s.length = 128) : YieldsIf Try.prog ops S o (.agg (wrV (n, s)).toArray) a :=
  .inl ⟨hw, fun w _ => by
    unfold execOp
    have e : ((#[(0, x), (1, y)] : Array (Nat × Operand)).map fun (i, x) => (i, a.eval x)) = #[(0, Value.int .i64 (n : Int)), (1, Value.agg (cells s))] := by simp [hx, hy]
    simp only [ho, Sem.run_bind, e, build_writeR n s hs w, Result.andThen_ok]
    rfl⟩
theorem step_slice_writeR {w : World} {ops : Array Oper} {o : Oper} {a : Act} {K : Act → World → Prop} {Q : Exit → Act → World → Prop} {E : Prop} (hgd : Region.wanted o (yielded ops a.tmps) = true) (x : Operand)
    (ho : o.op = .buildSlice 26 1 #[(0, x)]) (p : Nat × List Nat) (hx : a.eval x = .agg (wrV p).toArray) (hs : p.2.length = 128)
    (h : K (a.put o.dst (.slice (some ⟨w.heap.size, 0, none⟩) 1 1)) (w.alloc (.cells (wrV p).toArray 41))) :
    if Region.wanted o (yielded ops a.tmps) = true then Oper.wp Try.prog o a w K Q else E := by
  rw [if_pos hgd]
  unfold Oper.wp execOp
  have e : ((#[(0, x)] : Array (Nat × Operand)).map fun (i, x) => (i, a.eval x)) = #[(0, Value.agg (wrV p).toArray)] := by simp [hx]
  simp only [ho, Sem.run_bind, e, slice_writeR p hs w, Result.andThen_ok]
  exact h
theorem rowsW_one (l : List (Nat × List Nat)) : OneRows (rowsW l) := by
  intro p hp u hu
  obtain ⟨x, _, rfl⟩ := List.mem_map.1 hp
  simp only [wrV, List.mem_cons] at hu
  rcases hu with rfl | hu
  · rfl
  · exact byteV_oneCell _ u hu
theorem wrV_oneC (p : Nat × List Nat) : ∀ u ∈ wrV p, u.oneCell' = true := by
  intro u hu
  simp only [wrV, List.mem_cons] at hu
  rcases hu with rfl | hu
  · rfl
  · exact byteV_oneCell _ u hu
theorem five_set {w : World} {g : Nat} {x0 x1 x2 x3 x4 : Value} {t : TypeId} (a b c d e : Value) (h : w.heap[g]? = some (.cells #[x0, x1, x2, x3, x4] t (0, 0))) :
    Five (((((w.setCell ⟨g, 0, none⟩ a).setCell ⟨g, 1, none⟩ b).setCell ⟨g, 2, none⟩ c).setCell ⟨g, 3, none⟩ d).setCell ⟨g, 4, none⟩ e) g a b c d e ∧ w.grownBy (((((w.setCell ⟨g, 0, none⟩ a).setCell ⟨g, 1, none⟩ b).setCell ⟨g, 2, none⟩ c).setCell ⟨g, 3, none⟩ d).setCell ⟨g, 4, none⟩ e) (some g) := by
  have h1 := heap_setCell_same w g 0 _ _ a h
  have h2 := heap_setCell_same _ g 1 _ _ b h1
  have h3 := heap_setCell_same _ g 2 _ _ c h2
  have h4 := heap_setCell_same _ g 3 _ _ d h3
  have h5 := heap_setCell_same _ g 4 _ _ e h4
  have sh := fun (W : World) (A : Addr) (v : Value) => (⟨rfl, rfl, rfl, by simp [World.setCell], fun k hk hne => Below.heap_setCell _ _ _ _ (fun e => hne (by rw [e]))⟩ : W.grownBy (W.setCell A v) (some A.block))
  refine ⟨⟨cell_of_row h5 0, cell_of_row h5 1, cell_of_row h5 2, cell_of_row h5 3, cell_of_row h5 4⟩, ?_⟩
  have tr := fun (A B C : World) (h : A.grownBy B (some g)) (k : B.grownBy C (some g)) => h.andThen k (fun j hj => by cases hj; exact Or.inr rfl)
  exact tr _ _ _ (tr _ _ _ (tr _ _ _ (tr _ _ _ (sh w ⟨g, 0, none⟩ a) (sh _ ⟨g, 1, none⟩ b)) (sh _ ⟨g, 2, none⟩ c)) (sh _ ⟨g, 3, none⟩ d)) (sh _ ⟨g, 4, none⟩ e)
theorem ReadsR.less2 {w w' : World} {a : Option Addr} {k B : Nat} {l : List (List Value)} (h : ReadsR w a k l) (b : Below B w w') (hB : w.heap.size = B) : ReadsR w' a k l := h.below (by rw [hB]; exact b)
theorem grown_setCellD (w : World) (a : Addr) (v : Value) : w.grownBy (w.setCell a v) (some a.block) := ⟨rfl, rfl, rfl, by simp [World.setCell], fun k hk hne => Below.heap_setCell _ _ _ _ (fun e => hne (by rw [e]))⟩
theorem three_at {w w1 : World} {o1 o2 o3 : Obj} (b : Below (((w.alloc o1).alloc o2).alloc o3).heap.size (((w.alloc o1).alloc o2).alloc o3) w1) : Below w.heap.size w w1 ∧ w1.heap[w.heap.size]? = (w.alloc o1).heap[w.heap.size]? ∧ w1.heap[w.heap.size + 1]? = ((w.alloc o1).alloc o2).heap[w.heap.size + 1]? ∧ w1.heap[w.heap.size + 1 + 1]? = (((w.alloc o1).alloc o2).alloc o3).heap[w.heap.size + 1 + 1]? ∧ w.heap.size + 3 ≤ w1.heap.size := by
  have s1 : (w.alloc o1).heap.size = w.heap.size + 1 := by simp
  have s2 : ((w.alloc o1).alloc o2).heap.size = w.heap.size + 1 + 1 := by rw [← s1]; simp
  have s3 : (((w.alloc o1).alloc o2).alloc o3).heap.size = w.heap.size + 1 + 1 + 1 := by rw [← s2]; simp
  have k2 := below_box (w.alloc o1) o2
  have k3 := below_box ((w.alloc o1).alloc o2) o3
  refine ⟨below_next (below_next (below_next (below_box w o1) k2) k3) b, ?_, ?_, b.block _ (by omega), by have := b.size; omega⟩
  · rw [b.block _ (by omega), k3.block _ (by omega), k2.block _ (by omega)]
  · rw [b.block _ (by omega), k3.block _ (by omega)]
theorem rdeed_plainD (sa : Option Addr) (sn sc : Nat) (qa : Option Addr) (qn qc : Nat) (D : DiskD) (hl : D.left ≤ 9223372036854775807) (hd : D.dead = false) (hdd : D.deeds < 1000000) (w : World) :
    Calls Try.prog 118 #[refV sa sn sc qa qn qc false (armI D) D.deeds] w fun e w' => e = .returned (.tuple #[refV sa sn sc qa qn qc (deedD D).dead (armI (deedD D)) (deedD D).deeds, .int .i64 (deedE D)]) ∧ Below w.heap.size w w' := by
  obtain ⟨e1, e2, e3, e4⟩ := armI_deed hd
  rw [e1, e2, e3, e4]
  refine rdeed_plain sa sn sc qa qn qc (armI D) D.deeds w (by omega) ?_
  unfold armI
  split <;> omega
set_option maxHeartbeats 2000000 in
theorem rput_yes (sa : Option Addr) (sn sc : Nat) (qa : Option Addr) (qc : Nat) (D : DiskD) (n : Nat) (s : List Nat) (hs : s.length = 128) (hd : D.dead = false) (hdd : D.deeds < 1000000) (hleft : D.left ≤ 9223372036854775807) (hn : n < sn) (hc : D.cache.length < 1000000) (w : World) (hq : ReadsR w qa 129 (rowsW D.cache)) :
    Calls Try.prog 57 #[refV sa sn sc qa D.cache.length qc D.dead (armI D) D.deeds, .int .i64 (n : Int), .agg (cells s)] w fun e w' => ∃ v, OwnsR' w.heap.size w' 41 129 v (rowsW (D.cache ++ [(n, s)])) ∧ (∃ a c, v = .slice a (D.cache.length + 1) c ∧
      e = .returned (.tuple #[refV sa sn sc a (D.cache.length + 1) c (deedD (pushD D (n, s))).dead (armI (deedD (pushD D (n, s)))) (deedD (pushD D (n, s))).deeds, .int .i64 (deedE D)])) ∧ Below w.heap.size w w' := by
  have HLQ : Hid ((rowsW D.cache).length = D.cache.length) := Lib.hid (by unfold rowsW; rw [List.length_map])
  obtain ⟨qn, hqn⟩ : ∃ x, D.cache.length = x := ⟨_, rfl⟩
  have HDE : Hid (deedE (pushD D (n, s)) = deedE D) := rfl
  have HA : Hid (armI (pushD D (n, s)) = armI D) := rfl
  have HDD : Hid (((pushD D (n, s)).deeds) = D.deeds) := rfl
  rw [hqn] at hc HLQ ⊢
  obtain ⟨ai, hai⟩ : ∃ x, armI D = x := ⟨_, rfl⟩
  obtain ⟨dn, hdn⟩ : ∃ x : Int, (D.deeds : Int) = x := ⟨_, rfl⟩
  have HQ := Lib.hid hq
  have HC := Lib.hid hc
  have HS := Lib.hid hs
  have hm : mayR D.dead sn (n : Int) = 0 := by
    unfold mayR
    rw [if_neg (by omega), hd]
    rfl
  have HM := Lib.hid hm
  have HPOST : Hid (∀ (a : Option Addr) (c : Nat) (W : World), Calls Try.prog 118 #[refV sa sn sc a (qn + 1) c false ai dn] W fun e w' => e = .returned (.tuple #[refV sa sn sc a (qn + 1) c (deedD (pushD D (n, s))).dead (armI (deedD (pushD D (n, s)))) (deedD (pushD D (n, s))).deeds, .int .i64 (deedE D)]) ∧ Below W.heap.size W w') := Lib.hid (by
    intro a c W
    rw [← hai, ← hdn]
    exact rdeed_plainD sa sn sc a (qn + 1) c (pushD D (n, s)) hleft hd hdd W)
  rw [hai, hdn, hd]
  rw [hd] at HM
  clear hq hc hs hm hai hdn HDE HA HDD hqn hd hdd hleft
  unfold refV
  go_enter Try.func57, Try.ntmps57
  have k1 := below_box w (.cells #[.slice sa sn sc, .slice qa qn qc, .bool false, .int .i64 ai, .int .i64 dn] 28)
  go_wp2_with fail
  refine (rmay_is sa sn sc qa qn qc false ai dn (n : Int) _).mono ?_
  rintro e w1 ⟨rfl, b1⟩
  rw [HM.out]
  go_wp2_with fail
  refine wp_region_last (S := fun W => W.cell? ⟨w.heap.size, 1, none⟩ = some (.slice qa qn qc) ∧ W.rangeAt (w.heap.size + 1) 0 (s.map byteV)) (n := 10) (by kernel_rfl) ?_ (fun hHeld => ?_)
  · obtain ⟨kb, n0, n1, n2, hsz⟩ := three_at b1
    rw [heap_alloc_new] at n0
    have hs1 : (w.alloc (.cells #[.slice sa sn sc, .slice qa qn qc, .bool false, .int .i64 ai, .int .i64 dn] 28)).heap.size = w.heap.size + 1 := by simp
    rw [← hs1, heap_alloc_new, hs1] at n1
    exact ⟨cell_of_row n0 1, range_of n1⟩
  obtain ⟨kb, n0, n1, n2, hsz⟩ := three_at b1
  rw [heap_alloc_new] at n0
  have hs1 : (w.alloc (.cells #[.slice sa sn sc, .slice qa qn qc, .bool false, .int .i64 ai, .int .i64 dn] 28)).heap.size = w.heap.size + 1 := by simp
  rw [← hs1, heap_alloc_new, hs1] at n1
  have hs2 : ((w.alloc (.cells #[.slice sa sn sc, .slice qa qn qc, .bool false, .int .i64 ai, .int .i64 dn] 28)).alloc (.cells (cells s) 39)).heap.size = w.heap.size + 1 + 1 := by rw [← hs1]; simp
  rw [← hs2, heap_alloc_new, hs2] at n2
  obtain ⟨b0, hb0⟩ : ∃ x, w.heap.size = x := ⟨_, rfl⟩
  rw [hb0] at n0 n1 n2 hsz ⊢
  have k4 : w1.drew.cell? ⟨b0, 1, none⟩ = some (.slice qa qn qc) := cell_of_row n0 1
  have kr : w1.drew.rangeAt (b0 + 1) 0 (s.map byteV) := range_of n1
  have HQ1 : Hid (ReadsR w1.drew qa 129 (rowsW D.cache)) := Lib.hid (HQ.out.below kb.drew)
  have N0 : Hid (w1.drew.heap[b0]? = some (.cells #[.slice sa sn sc, .slice qa qn qc, .bool false, .int .i64 ai, .int .i64 dn] 28 (0, 0))) := Lib.hid n0
  have KB : Hid (Below b0 w w1.drew) := Lib.hid (by rw [← hb0]; exact kb.drew)
  have hsz' : b0 + 3 ≤ w1.drew.heap.size := hsz
  have N2 : Hid (w1.drew.heap[b0 + 1 + 1]? = some (.cells #[.slice none 0 0, .slice none 0 0, .bool false, .int .i64 0, .int .i64 0] 28 (0, 0))) := Lib.hid n2
  clear n0 n1 n2 hs2 hs1 kb b1 k1 HQ hsz HM
  generalize w1.drew = w2 at *
  obtain ⟨B, hB⟩ : ∃ x, w2.heap.size = x := ⟨_, rfl⟩
  have HB2 := Lib.hid hB
  rw [hB] at hsz'
  have HSB : Hid (∀ W, Below B w2 W → W.cell? ⟨b0, 1, none⟩ = some (.slice qa qn qc) ∧ W.rangeAt (b0 + 1) 0 (s.map byteV)) := Lib.hid (fun W hW => ⟨(hW.cell (p := ⟨b0, 1, none⟩) (by show b0 < B; omega)).trans k4, ranges_below hW (by omega) kr⟩)
  have S0 := HSB.out w2 (Below.refl _ _)
  clear hB k4 kr
  obtain ⟨d128, hu128, hr128⟩ := row_arr128
  have h128 : (Try.prog.info? 39).map (·.size) = some (s.map byteV).length := by rw [List.length_map, HS.out]; exact size_arr128
  refine wpAnyE_take (i := 1) (v := .pointer (some ⟨b0, 1, none⟩)) rfl (by kernel_rfl) (by decide) (by kernel_rfl) (by kernel_rfl) (by kernel_rfl) (fun _ _ _ h => h) (Or.inl ⟨by rfl, by intro W hSw; (try dsimp only at hSw); go_simp⟩) (by assumption) ?_
  try simp only [List.getElem_toArray, List.getElem_cons_zero, List.getElem_cons_succ, Act.put, List.setIfInBounds_toArray, List.set_cons_zero, List.set_cons_succ]
  refine wpAnyE_take (i := 2) (v := .slice qa qn qc) rfl (by kernel_rfl) (by decide) (by kernel_rfl) (by kernel_rfl) (by kernel_rfl) (fun _ _ _ h => h) (Or.inl ⟨by rfl, by intro W hSw; have hS1 := hSw.1; clear hSw; go_simp⟩) (by assumption) ?_
  try simp only [List.getElem_toArray, List.getElem_cons_zero, List.getElem_cons_succ, Act.put, List.setIfInBounds_toArray, List.set_cons_zero, List.set_cons_succ]
  refine wpAnyE_take (i := 4) (v := .int .i64 (n : Int)) rfl (by kernel_rfl) (by decide) (by kernel_rfl) (by kernel_rfl) (by kernel_rfl) (fun _ _ _ h => h) (Or.inl ⟨by rfl, by intro W hSw; (try dsimp only at hSw); go_simp⟩) (by assumption) ?_
  try simp only [List.getElem_toArray, List.getElem_cons_zero, List.getElem_cons_succ, Act.put, List.setIfInBounds_toArray, List.set_cons_zero, List.set_cons_succ]
  refine wpAnyE_take (i := 5) (v := .agg (cells s)) rfl (by kernel_rfl) (by decide) (by kernel_rfl) (by kernel_rfl) (by kernel_rfl) (fun _ _ _ h => h) (yieldsIf_load_mid (by rfl) 39 _ rfl (b0 + 1) 0 (by rfl) (s.map byteV) d128 (fun W hW => hW.2) hu128 hr128 h128) (by assumption) ?_
  try simp only [List.getElem_toArray, List.getElem_cons_zero, List.getElem_cons_succ, Act.put, List.setIfInBounds_toArray, List.set_cons_zero, List.set_cons_succ]
  refine wpAnyE_take (i := 6) (v := .agg (wrV (n, s)).toArray) rfl (by kernel_rfl) (by decide) (by kernel_rfl) (by kernel_rfl) (by kernel_rfl) (fun _ _ _ h => h) (yields_buildR (by rfl) _ _ rfl n s (by rfl) (by rfl) HS.out) (by assumption) ?_
  try simp only [List.getElem_toArray, List.getElem_cons_zero, List.getElem_cons_succ, Act.put, List.setIfInBounds_toArray, List.set_cons_zero, List.set_cons_succ]
  have b2 : Below B w2 w2 := Below.refl _ _
  have l2 : B ≤ w2.heap.size := Nat.le_of_eq HB2.out.symm
  refine wpAnyE_ready (rs := [0, 7]) (by kernel_rfl) (by simp) ?_
  refine AllE.cons rfl (fun K hK => ?_) (AllE.cons rfl (fun K hK => ?_) AllE.nil)
  · obtain ⟨w3, hw3⟩ : ∃ x, w2.alloc (.cells #[] 41) = x := ⟨_, rfl⟩
    obtain ⟨gA, hgA⟩ : ∃ x, w2.heap.size = x := ⟨_, rfl⟩
    have b3 : Below B w2 w3 := by rw [← hw3]; exact b2.alloc l2 _
    have Z3 : Hid (w3.heap.size = w2.heap.size + 1) := Lib.hid (by rw [← hw3]; simp)
    have l3 : B ≤ w3.heap.size := by have := Z3.out; omega
    have O3 : Hid (OwnsR' B w3 41 129 (.slice (some ⟨gA, 0, none⟩) 0 0) []) := Lib.hid (by rw [← hw3, ← hgA]; exact OwnsR'.new (by simp) l2 (by unfold maxLen; simp) rfl)
    go_simp
    refine hK.out _ _ (HSB.out _ b3) (fun hHeld3 => ?_)
    clear hK K
    try simp only [List.getElem_toArray, List.getElem_cons_zero, List.getElem_cons_succ, Act.put, List.setIfInBounds_toArray, List.set_cons_zero, List.set_cons_succ]
    refine wpAnyE_ready (rs := [3, 7]) (by kernel_rfl) (by simp) ?_
    refine AllE.cons rfl (fun K hK => ?_) (AllE.cons rfl (fun K hK => ?_) AllE.nil)
    · rw [if_pos (by rfl)]
      refine wp_append_rows' _ _ 26 rfl B 41 _ 129 136 Try.underlying26 wrR_info rfl (by decide) _ [] (by rfl) O3.out qa qc (rowsW D.cache) (by rw [HLQ.out]; rfl) (HQ1.out.less2 b3 HB2.out) (rowsW_one _) (by rw [HLQ.out]; have := HC.out; simp; omega) (by rw [HLQ.out]; have := HC.out; unfold maxLen; simp; omega) l3 ?_
      intro v4 w4 o4 G4
      have b4 : Below B w2 w4 := b3.grown G4 l3 (fun j hj => (O3.out.lt j hj).1)
      have l4 : B ≤ w4.heap.size := Nat.le_trans l3 G4.size
      have O4 := Lib.hid o4
      rw [List.nil_append] at O4
      clear o4 G4
      refine hK.out _ _ (HSB.out _ b4) (fun hHeld4 => ?_)
      clear hK K
      try simp only [List.getElem_toArray, List.getElem_cons_zero, List.getElem_cons_succ, Act.put, List.setIfInBounds_toArray, List.set_cons_zero, List.set_cons_succ]
      refine wpAnyE_ready (rs := [7]) (by kernel_rfl) (by simp) ?_
      refine AllE.cons rfl (fun K hK => ?_) AllE.nil
      obtain ⟨w5, hw5⟩ : ∃ x, w4.alloc (.cells (wrV (n, s)).toArray 41) = x := ⟨_, rfl⟩
      obtain ⟨g7, hg7⟩ : ∃ x, w4.heap.size = x := ⟨_, rfl⟩
      have b5 : Below B w2 w5 := by rw [← hw5]; exact b4.alloc l4 _
      have Z5 : Hid (w5.heap.size = w4.heap.size + 1) := Lib.hid (by rw [← hw5]; simp)
      have l5 : B ≤ w5.heap.size := by have := Z5.out; omega
      have N5 : Hid (w5.heap[g7]? = some (.cells (wrV (n, s)).toArray 41 (0, 0))) := Lib.hid (by rw [← hw5, ← hg7]; exact heap_alloc_new w4 _)
      have O5 := Lib.hid (O4.out.alloc (.cells (wrV (n, s)).toArray 41))
      rw [hw5] at O5
      refine step_slice_writeR (by rfl) _ rfl (n, s) (by rfl) HS.out ?_
      rw [hw5, hg7]
      refine hK.out _ _ (HSB.out _ b5) (fun hHeld5 => ?_)
      clear hK K
      try simp only [List.getElem_toArray, List.getElem_cons_zero, List.getElem_cons_succ, Act.put, List.setIfInBounds_toArray, List.set_cons_zero, List.set_cons_succ]
      refine wpAnyE_ready (rs := [8]) (by kernel_rfl) (by simp) ?_
      refine AllE.cons rfl (fun K hK => ?_) AllE.nil
      refine step_append_row_at (by rfl) _ _ 26 rfl B 41 _ 129 136 Try.underlying26 wrR_info rfl (by decide) v4 (rowsW D.cache) (by rfl) O5.out g7 1 (wrV (n, s)) (by rfl) (by rw [wrV_size, HS.out]) (fun j u hu => (cell_of_row N5.out j).trans (by rw [List.getElem?_toArray]; exact hu)) (wrV_oneC _) (by rw [HLQ.out]; have := HC.out; omega) (by rw [HLQ.out]; have := HC.out; unfold maxLen; omega) l5 ?_
      intro v8 w8 o8 G8
      have b8 : Below B w2 w8 := b5.grown G8 l5 (fun j hj => (O5.out.lt j hj).1)
      have O8 := Lib.hid o8
      obtain ⟨a8, c8, e8, hr8, hl8, _⟩ := o8.reads
      rw [show (rowsW D.cache ++ [wrV (n, s)]).length = qn + 1 from by rw [List.length_append, HLQ.out]; rfl] at e8
      subst e8
      refine hK.out _ _ (HSB.out _ b8) (fun hHeld8 => ?_)
      clear hK K hr8 hl8 G8
      try simp only [List.getElem_toArray, List.getElem_cons_zero, List.getElem_cons_succ, Act.put, List.setIfInBounds_toArray, List.set_cons_zero, List.set_cons_succ]
      refine wpAnyE_take (i := 9) (v := .pointer (some ⟨b0, 1, none⟩)) rfl (by kernel_rfl) (by decide) (by kernel_rfl) (by kernel_rfl) (by kernel_rfl) (fun _ _ _ h => h) (Or.inl ⟨by rfl, by intro W hSw; (try dsimp only at hSw); go_simp⟩) (by assumption) ?_
      try simp only [List.getElem_toArray, List.getElem_cons_zero, List.getElem_cons_succ, Act.put, List.setIfInBounds_toArray, List.set_cons_zero, List.set_cons_succ]
      have n8 : w8.heap[b0]? = some (.cells #[.slice sa sn sc, .slice qa qn qc, .bool false, .int .i64 ai, .int .i64 dn] 28 (0, 0)) := (b8.block b0 (by omega)).trans N0.out
      have f8 := frozen_of_row w8 b0 1 _ _ n8
      have x8 : w8.cell? ⟨b0, 1, none⟩ = some (.slice qa qn qc) := cell_of_row n8 1
      have n9 := heap_setCell_same w8 b0 1 _ _ (.slice a8 (qn + 1) c8) n8
      obtain ⟨w9, hw9⟩ : ∃ x, w8.setCell ⟨b0, 1, none⟩ (.slice a8 (qn + 1) c8) = x := ⟨_, rfl⟩
      rw [hw9] at n9
      have K9 : Hid (Below b0 w w9) := Lib.hid (by rw [← hw9]; exact (KB.out.trans (b8.mono (by omega))).setCell (p := ⟨b0, 1, none⟩) (Nat.le_refl _) _)
      have O9 : Hid (OwnsR' B w9 41 129 (.slice a8 (qn + 1) c8) (rowsW D.cache ++ [wrV (n, s)])) := Lib.hid (by rw [← hw9]; exact O8.out.kept (grown_setCellD w8 ⟨b0, 1, none⟩ _) (by rcases ho : (Value.slice a8 (qn + 1) c8).ownBlock with _ | j; exact .inl rfl; right; intro e; have h1 := O8.out.lt j ho; have : j = b0 := Option.some.inj e; omega))
      refine wpAnyE_ready (rs := [10]) (by kernel_rfl) (by simp) ?_
      refine AllE.last rfl (fun K hK => ?_)
      go_simp
      refine hK.out _ _ ?_
      clear hK K
      try simp only [List.getElem_toArray, List.getElem_cons_zero, List.getElem_cons_succ, Act.put, List.setIfInBounds_toArray, List.set_cons_zero, List.set_cons_succ]
      refine wpAnyE_done (by kernel_rfl) ?_ _
      have y0 : w9.cell? ⟨b0, 0, none⟩ = some (.slice sa sn sc) := cell_of_row n9 0
      have y1 : w9.cell? ⟨b0, 1, none⟩ = some (.slice a8 (qn + 1) c8) := cell_of_row n9 1
      have y2 : w9.cell? ⟨b0, 2, none⟩ = some (.bool false) := cell_of_row n9 2
      have y3 : w9.cell? ⟨b0, 3, none⟩ = some (.int .i64 ai) := cell_of_row n9 3
      have y4 : w9.cell? ⟨b0, 4, none⟩ = some (.int .i64 dn) := cell_of_row n9 4
      have n29 : w9.heap[b0 + 1 + 1]? = some (.cells #[.slice none 0 0, .slice none 0 0, .bool false, .int .i64 0, .int .i64 0] 28 (0, 0)) := by rw [← hw9]; exact (Below.heap_setCell _ _ _ _ (by show b0 + 1 + 1 ≠ b0; omega)).trans ((b8.block (b0 + 1 + 1) (by omega)).trans N2.out)
      clear n8 f8 x8 n9 hw9 hHeld hHeld8 b8
      go_wp2_with fail
      refine (HPOST.out a8 c8 w9).mono ?_
      rintro e w10 ⟨rfl, b10⟩
      have n210 := (b10.block (b0 + 1 + 1) (Array.getElem?_eq_some_iff.1 n29).1).trans n29
      have K10 := Lib.hid (K9.out.trans (b10.mono (Nat.le_trans (by omega) K9.out.size)))
      have O10 := Lib.hid (O9.out.below b10)
      obtain ⟨dd, hdd⟩ : ∃ x, (deedD (pushD D (n, s))).dead = x := ⟨_, rfl⟩
      obtain ⟨da, hda⟩ : ∃ x, armI (deedD (pushD D (n, s))) = x := ⟨_, rfl⟩
      obtain ⟨de, hde⟩ : ∃ x : Int, ((deedD (pushD D (n, s))).deeds : Int) = x := ⟨_, rfl⟩
      rw [hdd, hda, hde]
      unfold refV
      have z0 : w10.cell? ⟨b0 + 1 + 1, 0, none⟩ = some (.slice none 0 0) := cell_of_row n210 0
      have z1 : w10.cell? ⟨b0 + 1 + 1, 1, none⟩ = some (.slice none 0 0) := cell_of_row n210 1
      have z2 : w10.cell? ⟨b0 + 1 + 1, 2, none⟩ = some (.bool false) := cell_of_row n210 2
      have z3 : w10.cell? ⟨b0 + 1 + 1, 3, none⟩ = some (.int .i64 0) := cell_of_row n210 3
      have z4 : w10.cell? ⟨b0 + 1 + 1, 4, none⟩ = some (.int .i64 0) := cell_of_row n210 4
      have ff := fun j => frozen_of_row w10 (b0 + 1 + 1) j _ _ n210
      clear y0 y1 y2 y3 y4 n29 b10 O9 K9
      have F5 := five_set (.slice sa sn sc) (.slice a8 (qn + 1) c8) (.bool dd) (.int .i64 da) (.int .i64 de) n210
      have F5H := Lib.hid F5
      clear F5
      go_wp2
      refine bodyPost_ret (results_five_tmp rfl _ _ (b0 + 1 + 1) rfl F5H.out.1) rfl ?_
      refine ⟨.slice a8 (qn + 1) c8, ?_, ⟨a8, c8, rfl, by rw [hdd, hda, hde]; rfl⟩, ?_⟩
      · have e9 : rowsW (D.cache ++ [(n, s)]) = rowsW D.cache ++ [wrV (n, s)] := by unfold rowsW; rw [List.map_append]; rfl
        rw [e9]
        refine (O10.out.kept F5H.out.2 ?_).less (by omega)
        rcases ho : (Value.slice a8 (qn + 1) c8).ownBlock with _ | j
        · exact .inl rfl
        · right
          intro e
          have h1 := O10.out.lt j ho
          have : j = b0 + 1 + 1 := Option.some.inj e
          omega
      · rw [hb0]
        exact K10.out.grown F5H.out.2 (by have := K10.out.size; omega) (fun j hj => by obtain rfl := Option.some.inj hj; omega)
    · obtain ⟨w4, hw4⟩ : ∃ x, w3.alloc (.cells (wrV (n, s)).toArray 41) = x := ⟨_, rfl⟩
      obtain ⟨g7, hg7⟩ : ∃ x, w3.heap.size = x := ⟨_, rfl⟩
      have b4 : Below B w2 w4 := by rw [← hw4]; exact b3.alloc l3 _
      have Z4 : Hid (w4.heap.size = w3.heap.size + 1) := Lib.hid (by rw [← hw4]; simp)
      have l4 : B ≤ w4.heap.size := by have := Z4.out; omega
      have N4 : Hid (w4.heap[g7]? = some (.cells (wrV (n, s)).toArray 41 (0, 0))) := Lib.hid (by rw [← hw4, ← hg7]; exact heap_alloc_new w3 _)
      have O4 := Lib.hid (O3.out.alloc (.cells (wrV (n, s)).toArray 41))
      rw [hw4] at O4
      refine step_slice_writeR (by rfl) _ rfl (n, s) (by rfl) HS.out ?_
      rw [hw4, hg7]
      refine hK.out _ _ (HSB.out _ b4) (fun hHeld4 => ?_)
      clear hK K
      try simp only [List.getElem_toArray, List.getElem_cons_zero, List.getElem_cons_succ, Act.put, List.setIfInBounds_toArray, List.set_cons_zero, List.set_cons_succ]
      refine wpAnyE_ready (rs := [3]) (by kernel_rfl) (by simp) ?_
      refine AllE.cons rfl (fun K hK => ?_) AllE.nil
      rw [if_pos (by rfl)]
      refine wp_append_rows' _ _ 26 rfl B 41 _ 129 136 Try.underlying26 wrR_info rfl (by decide) _ [] (by rfl) O4.out qa qc (rowsW D.cache) (by rw [HLQ.out]; rfl) (HQ1.out.less2 b4 HB2.out) (rowsW_one _) (by rw [HLQ.out]; have := HC.out; simp; omega) (by rw [HLQ.out]; have := HC.out; unfold maxLen; simp; omega) l4 ?_
      intro v5 w5 o5 G5
      have b5 : Below B w2 w5 := b4.grown G5 l4 (fun j hj => (O4.out.lt j hj).1)
      have l5 : B ≤ w5.heap.size := Nat.le_trans l4 G5.size
      have O5 := Lib.hid o5
      rw [List.nil_append] at O5
      have N5 : Hid (w5.heap[g7]? = some (.cells (wrV (n, s)).toArray 41 (0, 0))) := Lib.hid ((G5.block g7 (Array.getElem?_eq_some_iff.1 N4.out).1 (by show some g7 ≠ some gA; have h : g7 ≠ gA := (by have := Z3.out; omega); simpa using h)).trans N4.out)
      clear o5 G5
      refine hK.out _ _ (HSB.out _ b5) (fun hHeld5 => ?_)
      clear hK K
      try simp only [List.getElem_toArray, List.getElem_cons_zero, List.getElem_cons_succ, Act.put, List.setIfInBounds_toArray, List.set_cons_zero, List.set_cons_succ]
      refine wpAnyE_ready (rs := [8]) (by kernel_rfl) (by simp) ?_
      refine AllE.cons rfl (fun K hK => ?_) AllE.nil
      refine step_append_row_at (by rfl) _ _ 26 rfl B 41 _ 129 136 Try.underlying26 wrR_info rfl (by decide) v5 (rowsW D.cache) (by rfl) O5.out g7 1 (wrV (n, s)) (by rfl) (by rw [wrV_size, HS.out]) (fun j u hu => (cell_of_row N5.out j).trans (by rw [List.getElem?_toArray]; exact hu)) (wrV_oneC _) (by rw [HLQ.out]; have := HC.out; omega) (by rw [HLQ.out]; have := HC.out; unfold maxLen; omega) l5 ?_
      intro v8 w8 o8 G8
      have b8 : Below B w2 w8 := b5.grown G8 l5 (fun j hj => (O5.out.lt j hj).1)
      have O8 := Lib.hid o8
      obtain ⟨a8, c8, e8, hr8, hl8, _⟩ := o8.reads
      rw [show (rowsW D.cache ++ [wrV (n, s)]).length = qn + 1 from by rw [List.length_append, HLQ.out]; rfl] at e8
      subst e8
      refine hK.out _ _ (HSB.out _ b8) (fun hHeld8 => ?_)
      clear hK K hr8 hl8 G8
      try simp only [List.getElem_toArray, List.getElem_cons_zero, List.getElem_cons_succ, Act.put, List.setIfInBounds_toArray, List.set_cons_zero, List.set_cons_succ]
      refine wpAnyE_take (i := 9) (v := .pointer (some ⟨b0, 1, none⟩)) rfl (by kernel_rfl) (by decide) (by kernel_rfl) (by kernel_rfl) (by kernel_rfl) (fun _ _ _ h => h) (Or.inl ⟨by rfl, by intro W hSw; (try dsimp only at hSw); go_simp⟩) (by assumption) ?_
      try simp only [List.getElem_toArray, List.getElem_cons_zero, List.getElem_cons_succ, Act.put, List.setIfInBounds_toArray, List.set_cons_zero, List.set_cons_succ]
      have n8 : w8.heap[b0]? = some (.cells #[.slice sa sn sc, .slice qa qn qc, .bool false, .int .i64 ai, .int .i64 dn] 28 (0, 0)) := (b8.block b0 (by omega)).trans N0.out
      have f8 := frozen_of_row w8 b0 1 _ _ n8
      have x8 : w8.cell? ⟨b0, 1, none⟩ = some (.slice qa qn qc) := cell_of_row n8 1
      have n9 := heap_setCell_same w8 b0 1 _ _ (.slice a8 (qn + 1) c8) n8
      obtain ⟨w9, hw9⟩ : ∃ x, w8.setCell ⟨b0, 1, none⟩ (.slice a8 (qn + 1) c8) = x := ⟨_, rfl⟩
      rw [hw9] at n9
      have K9 : Hid (Below b0 w w9) := Lib.hid (by rw [← hw9]; exact (KB.out.trans (b8.mono (by omega))).setCell (p := ⟨b0, 1, none⟩) (Nat.le_refl _) _)
      have O9 : Hid (OwnsR' B w9 41 129 (.slice a8 (qn + 1) c8) (rowsW D.cache ++ [wrV (n, s)])) := Lib.hid (by rw [← hw9]; exact O8.out.kept (grown_setCellD w8 ⟨b0, 1, none⟩ _) (by rcases ho : (Value.slice a8 (qn + 1) c8).ownBlock with _ | j; exact .inl rfl; right; intro e; have h1 := O8.out.lt j ho; have : j = b0 := Option.some.inj e; omega))
      refine wpAnyE_ready (rs := [10]) (by kernel_rfl) (by simp) ?_
      refine AllE.last rfl (fun K hK => ?_)
      go_simp
      refine hK.out _ _ ?_
      clear hK K
      try simp only [List.getElem_toArray, List.getElem_cons_zero, List.getElem_cons_succ, Act.put, List.setIfInBounds_toArray, List.set_cons_zero, List.set_cons_succ]
      refine wpAnyE_done (by kernel_rfl) ?_ _
      have y0 : w9.cell? ⟨b0, 0, none⟩ = some (.slice sa sn sc) := cell_of_row n9 0
      have y1 : w9.cell? ⟨b0, 1, none⟩ = some (.slice a8 (qn + 1) c8) := cell_of_row n9 1
      have y2 : w9.cell? ⟨b0, 2, none⟩ = some (.bool false) := cell_of_row n9 2
      have y3 : w9.cell? ⟨b0, 3, none⟩ = some (.int .i64 ai) := cell_of_row n9 3
      have y4 : w9.cell? ⟨b0, 4, none⟩ = some (.int .i64 dn) := cell_of_row n9 4
      have n29 : w9.heap[b0 + 1 + 1]? = some (.cells #[.slice none 0 0, .slice none 0 0, .bool false, .int .i64 0, .int .i64 0] 28 (0, 0)) := by rw [← hw9]; exact (Below.heap_setCell _ _ _ _ (by show b0 + 1 + 1 ≠ b0; omega)).trans ((b8.block (b0 + 1 + 1) (by omega)).trans N2.out)
      clear n8 f8 x8 n9 hw9 hHeld hHeld8 b8
      go_wp2_with fail
      refine (HPOST.out a8 c8 w9).mono ?_
      rintro e w10 ⟨rfl, b10⟩
      have n210 := (b10.block (b0 + 1 + 1) (Array.getElem?_eq_some_iff.1 n29).1).trans n29
      have K10 := Lib.hid (K9.out.trans (b10.mono (Nat.le_trans (by omega) K9.out.size)))
      have O10 := Lib.hid (O9.out.below b10)
      obtain ⟨dd, hdd⟩ : ∃ x, (deedD (pushD D (n, s))).dead = x := ⟨_, rfl⟩
      obtain ⟨da, hda⟩ : ∃ x, armI (deedD (pushD D (n, s))) = x := ⟨_, rfl⟩
      obtain ⟨de, hde⟩ : ∃ x : Int, ((deedD (pushD D (n, s))).deeds : Int) = x := ⟨_, rfl⟩
      rw [hdd, hda, hde]
      unfold refV
      have z0 : w10.cell? ⟨b0 + 1 + 1, 0, none⟩ = some (.slice none 0 0) := cell_of_row n210 0
      have z1 : w10.cell? ⟨b0 + 1 + 1, 1, none⟩ = some (.slice none 0 0) := cell_of_row n210 1
      have z2 : w10.cell? ⟨b0 + 1 + 1, 2, none⟩ = some (.bool false) := cell_of_row n210 2
      have z3 : w10.cell? ⟨b0 + 1 + 1, 3, none⟩ = some (.int .i64 0) := cell_of_row n210 3
      have z4 : w10.cell? ⟨b0 + 1 + 1, 4, none⟩ = some (.int .i64 0) := cell_of_row n210 4
      have ff := fun j => frozen_of_row w10 (b0 + 1 + 1) j _ _ n210
      clear y0 y1 y2 y3 y4 n29 b10 O9 K9
      have F5 := five_set (.slice sa sn sc) (.slice a8 (qn + 1) c8) (.bool dd) (.int .i64 da) (.int .i64 de) n210
      have F5H := Lib.hid F5
      clear F5
      go_wp2
      refine bodyPost_ret (results_five_tmp rfl _ _ (b0 + 1 + 1) rfl F5H.out.1) rfl ?_
      refine ⟨.slice a8 (qn + 1) c8, ?_, ⟨a8, c8, rfl, by rw [hdd, hda, hde]; rfl⟩, ?_⟩
      · have e9 : rowsW (D.cache ++ [(n, s)]) = rowsW D.cache ++ [wrV (n, s)] := by unfold rowsW; rw [List.map_append]; rfl
        rw [e9]
        refine (O10.out.kept F5H.out.2 ?_).less (by omega)
        rcases ho : (Value.slice a8 (qn + 1) c8).ownBlock with _ | j
        · exact .inl rfl
        · right
          intro e
          have h1 := O10.out.lt j ho
          have : j = b0 + 1 + 1 := Option.some.inj e
          omega
      · rw [hb0]
        exact K10.out.grown F5H.out.2 (by have := K10.out.size; omega) (fun j hj => by obtain rfl := Option.some.inj hj; omega)
  · obtain ⟨w3, hw3⟩ : ∃ x, w2.alloc (.cells (wrV (n, s)).toArray 41) = x := ⟨_, rfl⟩
    obtain ⟨g7, hg7⟩ : ∃ x, w2.heap.size = x := ⟨_, rfl⟩
    have b3 : Below B w2 w3 := by rw [← hw3]; exact b2.alloc l2 _
    have Z3 : Hid (w3.heap.size = w2.heap.size + 1) := Lib.hid (by rw [← hw3]; simp)
    have l3 : B ≤ w3.heap.size := by have := Z3.out; omega
    have N3 : Hid (w3.heap[g7]? = some (.cells (wrV (n, s)).toArray 41 (0, 0))) := Lib.hid (by rw [← hw3, ← hg7]; exact heap_alloc_new w2 _)
    refine step_slice_writeR (by rfl) _ rfl (n, s) (by rfl) HS.out ?_
    rw [hw3, hg7]
    refine hK.out _ _ (HSB.out _ b3) (fun hHeld3 => ?_)
    clear hK K
    try simp only [List.getElem_toArray, List.getElem_cons_zero, List.getElem_cons_succ, Act.put, List.setIfInBounds_toArray, List.set_cons_zero, List.set_cons_succ]
    refine wpAnyE_ready (rs := [0]) (by kernel_rfl) (by simp) ?_
    refine AllE.cons rfl (fun K hK => ?_) AllE.nil
    obtain ⟨w4, hw4⟩ : ∃ x, w3.alloc (.cells #[] 41) = x := ⟨_, rfl⟩
    obtain ⟨gA, hgA⟩ : ∃ x, w3.heap.size = x := ⟨_, rfl⟩
    have b4 : Below B w2 w4 := by rw [← hw4]; exact b3.alloc l3 _
    have Z4 : Hid (w4.heap.size = w3.heap.size + 1) := Lib.hid (by rw [← hw4]; simp)
    have l4 : B ≤ w4.heap.size := by have := Z4.out; omega
    have O4 : Hid (OwnsR' B w4 41 129 (.slice (some ⟨gA, 0, none⟩) 0 0) []) := Lib.hid (by rw [← hw4, ← hgA]; exact OwnsR'.new (by simp) l3 (by unfold maxLen; simp) rfl)
    have N4 : Hid (w4.heap[g7]? = some (.cells (wrV (n, s)).toArray 41 (0, 0))) := Lib.hid (by rw [← hw4]; exact ((below_box w3 _).block g7 (Array.getElem?_eq_some_iff.1 N3.out).1).trans N3.out)
    go_simp
    refine hK.out _ _ (HSB.out _ b4) (fun hHeld4 => ?_)
    clear hK K
    try simp only [List.getElem_toArray, List.getElem_cons_zero, List.getElem_cons_succ, Act.put, List.setIfInBounds_toArray, List.set_cons_zero, List.set_cons_succ]
    refine wpAnyE_ready (rs := [3]) (by kernel_rfl) (by simp) ?_
    refine AllE.cons rfl (fun K hK => ?_) AllE.nil
    rw [if_pos (by rfl)]
    refine wp_append_rows' _ _ 26 rfl B 41 _ 129 136 Try.underlying26 wrR_info rfl (by decide) _ [] (by rfl) O4.out qa qc (rowsW D.cache) (by rw [HLQ.out]; rfl) (HQ1.out.less2 b4 HB2.out) (rowsW_one _) (by rw [HLQ.out]; have := HC.out; simp; omega) (by rw [HLQ.out]; have := HC.out; unfold maxLen; simp; omega) l4 ?_
    intro v5 w5 o5 G5
    have b5 : Below B w2 w5 := b4.grown G5 l4 (fun j hj => (O4.out.lt j hj).1)
    have l5 : B ≤ w5.heap.size := Nat.le_trans l4 G5.size
    have O5 := Lib.hid o5
    rw [List.nil_append] at O5
    have N5 : Hid (w5.heap[g7]? = some (.cells (wrV (n, s)).toArray 41 (0, 0))) := Lib.hid ((G5.block g7 (Array.getElem?_eq_some_iff.1 N4.out).1 (by show some g7 ≠ some gA; have h : g7 ≠ gA := (by have := Z3.out; omega); simpa using h)).trans N4.out)
    clear o5 G5
    refine hK.out _ _ (HSB.out _ b5) (fun hHeld5 => ?_)
    clear hK K
    try simp only [List.getElem_toArray, List.getElem_cons_zero, List.getElem_cons_succ, Act.put, List.setIfInBounds_toArray, List.set_cons_zero, List.set_cons_succ]
    refine wpAnyE_ready (rs := [8]) (by kernel_rfl) (by simp) ?_
    refine AllE.cons rfl (fun K hK => ?_) AllE.nil
    refine step_append_row_at (by rfl) _ _ 26 rfl B 41 _ 129 136 Try.underlying26 wrR_info rfl (by decide) v5 (rowsW D.cache) (by rfl) O5.out g7 1 (wrV (n, s)) (by rfl) (by rw [wrV_size, HS.out]) (fun j u hu => (cell_of_row N5.out j).trans (by rw [List.getElem?_toArray]; exact hu)) (wrV_oneC _) (by rw [HLQ.out]; have := HC.out; omega) (by rw [HLQ.out]; have := HC.out; unfold maxLen; omega) l5 ?_
    intro v8 w8 o8 G8
    have b8 : Below B w2 w8 := b5.grown G8 l5 (fun j hj => (O5.out.lt j hj).1)
    have O8 := Lib.hid o8
    obtain ⟨a8, c8, e8, hr8, hl8, _⟩ := o8.reads
    rw [show (rowsW D.cache ++ [wrV (n, s)]).length = qn + 1 from by rw [List.length_append, HLQ.out]; rfl] at e8
    subst e8
    refine hK.out _ _ (HSB.out _ b8) (fun hHeld8 => ?_)
    clear hK K hr8 hl8 G8
    try simp only [List.getElem_toArray, List.getElem_cons_zero, List.getElem_cons_succ, Act.put, List.setIfInBounds_toArray, List.set_cons_zero, List.set_cons_succ]
    refine wpAnyE_take (i := 9) (v := .pointer (some ⟨b0, 1, none⟩)) rfl (by kernel_rfl) (by decide) (by kernel_rfl) (by kernel_rfl) (by kernel_rfl) (fun _ _ _ h => h) (Or.inl ⟨by rfl, by intro W hSw; (try dsimp only at hSw); go_simp⟩) (by assumption) ?_
    try simp only [List.getElem_toArray, List.getElem_cons_zero, List.getElem_cons_succ, Act.put, List.setIfInBounds_toArray, List.set_cons_zero, List.set_cons_succ]
    have n8 : w8.heap[b0]? = some (.cells #[.slice sa sn sc, .slice qa qn qc, .bool false, .int .i64 ai, .int .i64 dn] 28 (0, 0)) := (b8.block b0 (by omega)).trans N0.out
    have f8 := frozen_of_row w8 b0 1 _ _ n8
    have x8 : w8.cell? ⟨b0, 1, none⟩ = some (.slice qa qn qc) := cell_of_row n8 1
    have n9 := heap_setCell_same w8 b0 1 _ _ (.slice a8 (qn + 1) c8) n8
    obtain ⟨w9, hw9⟩ : ∃ x, w8.setCell ⟨b0, 1, none⟩ (.slice a8 (qn + 1) c8) = x := ⟨_, rfl⟩
    rw [hw9] at n9
    have K9 : Hid (Below b0 w w9) := Lib.hid (by rw [← hw9]; exact (KB.out.trans (b8.mono (by omega))).setCell (p := ⟨b0, 1, none⟩) (Nat.le_refl _) _)
    have O9 : Hid (OwnsR' B w9 41 129 (.slice a8 (qn + 1) c8) (rowsW D.cache ++ [wrV (n, s)])) := Lib.hid (by rw [← hw9]; exact O8.out.kept (grown_setCellD w8 ⟨b0, 1, none⟩ _) (by rcases ho : (Value.slice a8 (qn + 1) c8).ownBlock with _ | j; exact .inl rfl; right; intro e; have h1 := O8.out.lt j ho; have : j = b0 := Option.some.inj e; omega))
    refine wpAnyE_ready (rs := [10]) (by kernel_rfl) (by simp) ?_
    refine AllE.last rfl (fun K hK => ?_)
    go_simp
    refine hK.out _ _ ?_
    clear hK K
    try simp only [List.getElem_toArray, List.getElem_cons_zero, List.getElem_cons_succ, Act.put, List.setIfInBounds_toArray, List.set_cons_zero, List.set_cons_succ]
    refine wpAnyE_done (by kernel_rfl) ?_ _
    have y0 : w9.cell? ⟨b0, 0, none⟩ = some (.slice sa sn sc) := cell_of_row n9 0
    have y1 : w9.cell? ⟨b0, 1, none⟩ = some (.slice a8 (qn + 1) c8) := cell_of_row n9 1
    have y2 : w9.cell? ⟨b0, 2, none⟩ = some (.bool false) := cell_of_row n9 2
    have y3 : w9.cell? ⟨b0, 3, none⟩ = some (.int .i64 ai) := cell_of_row n9 3
    have y4 : w9.cell? ⟨b0, 4, none⟩ = some (.int .i64 dn) := cell_of_row n9 4
    have n29 : w9.heap[b0 + 1 + 1]? = some (.cells #[.slice none 0 0, .slice none 0 0, .bool false, .int .i64 0, .int .i64 0] 28 (0, 0)) := by rw [← hw9]; exact (Below.heap_setCell _ _ _ _ (by show b0 + 1 + 1 ≠ b0; omega)).trans ((b8.block (b0 + 1 + 1) (by omega)).trans N2.out)
    clear n8 f8 x8 n9 hw9 hHeld hHeld8 b8
    go_wp2_with fail
    refine (HPOST.out a8 c8 w9).mono ?_
    rintro e w10 ⟨rfl, b10⟩
    have n210 := (b10.block (b0 + 1 + 1) (Array.getElem?_eq_some_iff.1 n29).1).trans n29
    have K10 := Lib.hid (K9.out.trans (b10.mono (Nat.le_trans (by omega) K9.out.size)))
    have O10 := Lib.hid (O9.out.below b10)
    obtain ⟨dd, hdd⟩ : ∃ x, (deedD (pushD D (n, s))).dead = x := ⟨_, rfl⟩
    obtain ⟨da, hda⟩ : ∃ x, armI (deedD (pushD D (n, s))) = x := ⟨_, rfl⟩
    obtain ⟨de, hde⟩ : ∃ x : Int, ((deedD (pushD D (n, s))).deeds : Int) = x := ⟨_, rfl⟩
    rw [hdd, hda, hde]
    unfold refV
    have z0 : w10.cell? ⟨b0 + 1 + 1, 0, none⟩ = some (.slice none 0 0) := cell_of_row n210 0
    have z1 : w10.cell? ⟨b0 + 1 + 1, 1, none⟩ = some (.slice none 0 0) := cell_of_row n210 1
    have z2 : w10.cell? ⟨b0 + 1 + 1, 2, none⟩ = some (.bool false) := cell_of_row n210 2
    have z3 : w10.cell? ⟨b0 + 1 + 1, 3, none⟩ = some (.int .i64 0) := cell_of_row n210 3
    have z4 : w10.cell? ⟨b0 + 1 + 1, 4, none⟩ = some (.int .i64 0) := cell_of_row n210 4
    have ff := fun j => frozen_of_row w10 (b0 + 1 + 1) j _ _ n210
    clear y0 y1 y2 y3 y4 n29 b10 O9 K9
    have F5 := five_set (.slice sa sn sc) (.slice a8 (qn + 1) c8) (.bool dd) (.int .i64 da) (.int .i64 de) n210
    have F5H := Lib.hid F5
    clear F5
    go_wp2
    refine bodyPost_ret (results_five_tmp rfl _ _ (b0 + 1 + 1) rfl F5H.out.1) rfl ?_
    refine ⟨.slice a8 (qn + 1) c8, ?_, ⟨a8, c8, rfl, by rw [hdd, hda, hde]; rfl⟩, ?_⟩
    · have e9 : rowsW (D.cache ++ [(n, s)]) = rowsW D.cache ++ [wrV (n, s)] := by unfold rowsW; rw [List.map_append]; rfl
      rw [e9]
      refine (O10.out.kept F5H.out.2 ?_).less (by omega)
      rcases ho : (Value.slice a8 (qn + 1) c8).ownBlock with _ | j
      · exact .inl rfl
      · right
        intro e
        have h1 := O10.out.lt j ho
        have : j = b0 + 1 + 1 := Option.some.inj e
        omega
    · rw [hb0]
      exact K10.out.grown F5H.out.2 (by have := K10.out.size; omega) (fun j hj => by obtain rfl := Option.some.inj hj; omega)

end Go.Proofs.Ythainmbapikjiaa
