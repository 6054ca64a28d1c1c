/- The document's ReadSummary: what it reads of any sector is what the program reads. -/
import Derived.Test.YtplkglepbedhoaaGjnphlmdd
import Derived.Test.YtplkglepbedhoaaGhpaaobof
import Derived.Test.YtplkglepbedhoaaGdgjbmkla
import Derived.Deep.DeepCutAuto
import Derived.Deep.RegionHeld3
namespace Go.Proofs.Ytplkglepbedhoaa
open Go.RowKit Go.Sort
set_option linter.unusedVariables false
set_option linter.unusedSimpArgs false
set_option maxRecDepth 100000

theorem step_store_row {P : Program} {w : World} {ops : Array Oper} {o : Oper} {a : Act} {K : Act → World → Prop} {Q : Exit → Act → World → Prop} {E : Prop} (hgd : Region.wanted o (yielded ops a.tmps) = true) (ty : TypeId) (x y : Operand) (ho : o.op = .store ty x y)
    (g : Nat) (cells : Array Value) (hx : a.eval x = .pointer (some ⟨g, 0, none⟩)) (hy : a.eval y = .agg cells)
    (t : TypeId) (old : Array Value) (hg : w.heap[g]? = some (.cells old t (0, 0))) (hi : (P.info? ty).map (·.size) = some cells.size)
    (hold : old.size = cells.size) (h1 : cells.all (·.oneCell') = true)
    (h : K (a.put o.dst undef) (w.setRow g cells)) : if Region.wanted o (yielded ops a.tmps) = true then Oper.wp P o a w K Q else E := by
  rw [if_pos hgd]
  exact wp_store_row ty x y ho g cells hx hy t old hg hi hold h1 h
theorem results_rsum {fn : Func} {p u : Tmp} (h : fn.results = #[.cell p 39, .tmp u]) (tmps : Array Value) (w : World) (g : Nat) (l : Array Value) (t : TypeId) (fr : Nat × Nat) (hp : tmps.getD p undef = .pointer (some ⟨g, 0, none⟩))
    (hg : w.heap[g]? = some (.cells l t fr)) (hl : l.size = 6) : (results fn tmps).run Try.prog w = .ok (.tuple #[.agg l, tmps.getD u undef]) w := by
  obtain ⟨d, hd1, hd2⟩ := rrow_sum
  rw [results_cell_tmp h, hp]
  simp only [asAddr, Sem.run_pure, Result.andThen_ok]
  rw [run_loadVar_row w g t 39 l fr d hg hd1 (by cases d <;> first | rfl | exact hd2) (by rw [rsize_sum, hl])]
  rfl
theorem six_row {w : World} {g : Nat} {t : TypeId} {o0 o1 o2 o3 o4 o5 : Value} (h : w.heap[g]? = some (.cells #[o0, o1, o2, o3, o4, o5] t (0, 0))) (v0 v1 v2 v3 v4 v5 : Value) :
    ((((((w.setCell ⟨g, 0, none⟩ v0).setCell ⟨g, 1, none⟩ v1).setCell ⟨g, 2, none⟩ v2).setCell ⟨g, 3, none⟩ v3).setCell ⟨g, 4, none⟩ v4).setCell ⟨g, 5, none⟩ v5).heap[g]? = some (.cells #[v0, v1, v2, v3, v4, v5] t (0, 0)) := by
  have h0 := heap_setCell_same w g 0 _ _ v0 h
  have h1 := heap_setCell_same _ g 1 _ _ v1 h0
  have h2 := heap_setCell_same _ g 2 _ _ v2 h1
  have h3 := heap_setCell_same _ g 3 _ _ v3 h2
  have h4 := heap_setCell_same _ g 4 _ _ v4 h3
  have h5 := heap_setCell_same _ g 5 _ _ v5 h4
  exact h5
theorem six_rowD {w : World} {g : Nat} {t : TypeId} {o0 o1 o2 o3 o4 o5 : Value} (h : w.heap[g]? = some (.cells #[o0, o1, o2, o3, o4, o5] t (0, 0))) (v0 v1 v2 v3 v4 v5 : Value) :
    (((((((w.setCell ⟨g, 0, none⟩ v0).setCell ⟨g, 1, none⟩ v1).setCell ⟨g, 2, none⟩ v2).setCell ⟨g, 3, none⟩ v3).setCell ⟨g, 4, none⟩ v4).setCell ⟨g, 5, none⟩ v5).drew).heap[g]? = some (.cells #[v0, v1, v2, v3, v4, v5] t (0, 0)) := by
  have h6 := six_row h v0 v1 v2 v3 v4 v5
  generalize (((((w.setCell ⟨g, 0, none⟩ v0).setCell ⟨g, 1, none⟩ v1).setCell ⟨g, 2, none⟩ v2).setCell ⟨g, 3, none⟩ v3).setCell ⟨g, 4, none⟩ v4).setCell ⟨g, 5, none⟩ v5 = W at *
  exact h6
theorem six_owns {B B' : Nat} {w : World} {e : TypeId} {k : Nat} {v : Value} {l : List (List Value)} {g : Nat} (h : OwnsR' B w e k v l) (hg : g < B) (hB : B' ≤ B) (v0 v1 v2 v3 v4 v5 : Value) :
    OwnsR' B' (((((((w.setCell ⟨g, 0, none⟩ v0).setCell ⟨g, 1, none⟩ v1).setCell ⟨g, 2, none⟩ v2).setCell ⟨g, 3, none⟩ v3).setCell ⟨g, 4, none⟩ v4).setCell ⟨g, 5, none⟩ v5).drew) e k v l := by
  have ho : ∀ j, v.ownBlock = some j → ((((((w.setCell ⟨g, 0, none⟩ v0).setCell ⟨g, 1, none⟩ v1).setCell ⟨g, 2, none⟩ v2).setCell ⟨g, 3, none⟩ v3).setCell ⟨g, 4, none⟩ v4).setCell ⟨g, 5, none⟩ v5).heap[j]? = w.heap[j]? := fun j hj => by
    have := (h.lt j hj).1
    have hk : j ≠ g := by omega
    exact (Below.heap_setCell _ _ _ _ hk).trans ((Below.heap_setCell _ _ _ _ hk).trans ((Below.heap_setCell _ _ _ _ hk).trans ((Below.heap_setCell _ _ _ _ hk).trans ((Below.heap_setCell _ _ _ _ hk).trans (Below.heap_setCell _ _ _ _ hk)))))
  exact ((owns_same h ho).below (below_drew _)).less hB
theorem six_other {w : World} {g k : Nat} (hk : k ≠ g) (v0 v1 v2 v3 v4 v5 : Value) :
    ((((((w.setCell ⟨g, 0, none⟩ v0).setCell ⟨g, 1, none⟩ v1).setCell ⟨g, 2, none⟩ v2).setCell ⟨g, 3, none⟩ v3).setCell ⟨g, 4, none⟩ v4).setCell ⟨g, 5, none⟩ v5).heap[k]? = w.heap[k]? :=
  (Below.heap_setCell _ _ _ _ hk).trans ((Below.heap_setCell _ _ _ _ hk).trans ((Below.heap_setCell _ _ _ _ hk).trans ((Below.heap_setCell _ _ _ _ hk).trans ((Below.heap_setCell _ _ _ _ hk).trans (Below.heap_setCell _ _ _ _ hk)))))
theorem six_below {B : Nat} {w0 w : World} {g : Nat} (hB : Below B w0 w) (hg : B ≤ g) (v0 v1 v2 v3 v4 v5 : Value) :
    Below B w0 ((((((w.setCell ⟨g, 0, none⟩ v0).setCell ⟨g, 1, none⟩ v1).setCell ⟨g, 2, none⟩ v2).setCell ⟨g, 3, none⟩ v3).setCell ⟨g, 4, none⟩ v4).setCell ⟨g, 5, none⟩ v5) :=
  below_set (below_set (below_set (below_set (below_set (below_set hB hg _) hg _) hg _) hg _) hg _) hg _
theorem slice_lh (bb off len cap : Nat) {l h n c : Nat} {li hi : Int} (hlh : l ≤ h) (hhc : h ≤ cap) (hlc : l < cap) (e1 : li = (l : Int)) (e2 : hi = (h : Int)) (en : h - l = n) (ec : cap - l = c) (W : World) :
    (Instr.sliceAt 40 (.slice (some ⟨bb, off, none⟩) len cap) (some (.int .i64 li)) (some (.int .i64 hi)) none).run Try.prog W = .ok (.slice (some ⟨bb, off + l, none⟩) n c) W := by
  have ht : Try.prog.underlying 40 = some (.slice (Try.prog.elem 40)) := by kernel_rfl
  have he : Try.prog.elem 40 = 5 := by kernel_rfl
  subst e1 e2 en ec
  rw [run_sliceAt_slice _ _ _ _ _ _ ht, run_slice_lh _ _ _ _ _ ht .i64 .i64 _ _ (by omega) (by omega) (by omega), he, run_size_u8]
  simp only [Result.andThen_ok, sliced, Int.toNat_natCast]
  rw [if_neg (by omega)]
  simp [Addr.add]
theorem slice_h (bb off len cap : Nat) {h : Nat} {hi : Int} (hhc : h ≤ cap) (hc : 0 < cap) (e2 : hi = (h : Int)) (W : World) :
    (Instr.sliceAt 40 (.slice (some ⟨bb, off, none⟩) len cap) none (some (.int .i64 hi)) none).run Try.prog W = .ok (.slice (some ⟨bb, off, none⟩) h cap) W := by
  have ht : Try.prog.underlying 40 = some (.slice (Try.prog.elem 40)) := by kernel_rfl
  have he : Try.prog.elem 40 = 5 := by kernel_rfl
  subst e2
  rw [run_sliceAt_slice _ _ _ _ _ _ ht, run_slice_h _ _ _ _ _ ht .i64 _ (by omega) (by omega), he, run_size_u8]
  simp only [Result.andThen_ok, sliced, Int.toNat_natCast]
  rw [if_neg (by omega)]
  simp [Addr.add]
theorem byte_at {w : World} {bb off len : Nat} {l : List Nat} (h : Reads w (some ⟨bb, off, none⟩) len l) {i : Nat} (hi : i < len) : w.cell? ⟨bb, off + i, none⟩ = some (.int .u8 ((numL l i 1 : Nat) : Int)) ∧ numL l i 1 < 256 ∧ bb < w.heap.size := by
  obtain ⟨h1, h2, h3⟩ := h
  have hn : numL l i 1 = l.getD i 0 := le_one l i (by omega)
  rcases h3 with rfl | ⟨b, o, e, hb, hc⟩
  · simp at h1; omega
  · obtain ⟨rfl, rfl⟩ : bb = b ∧ off = o := by simpa using e
    refine ⟨by rw [hn]; exact hc i hi, ?_, hb⟩
    rw [hn, List.getD_eq_getElem?_getD, List.getElem?_eq_getElem (by omega)]
    exact h2 _ (List.getElem_mem _)
theorem num_at {w : World} {bb off len : Nat} {l : List Nat} (h : Reads w (some ⟨bb, off, none⟩) len l) {i k : Nat} (hi : i + k ≤ len) (h8 : k ≤ 8) (c : Nat) (W : World) (hW : Below w.heap.size w W) :
    Calls Try.prog 88 #[.slice (some ⟨bb, off + i, none⟩) k c] W fun e w' => e = .returned (.int .u64 ((numL l i k : Nat) : Int)) ∧ W = w' :=
  num_any _ k c _ W ((h.part i k hi).below hW) h8
theorem numL_lt {b : List Nat} (hb : Bytes b) (i k : Nat) : numL b i k < 256 ^ k := by
  have h := le_lt _ ((hb.drop i).take k)
  have h2 : ((b.drop i).take k).length ≤ k := List.length_take_le _ _
  exact Nat.lt_of_lt_of_le h (Nat.pow_le_pow_right (by decide) h2)
def RReadSumPost (w : World) (s : List Nat) (e : Ending) (w' : World) : Prop :=
  Below w.heap.size w w' ∧ ∃ (D : SumD) (v : Value), e = .returned (.tuple #[.agg (sumX D v), .bool (decide ((readSm s).2 = 0))]) ∧ OwnsR' w.heap.size w' 162 4 v (D.list.map rowV) ∧ ((readSm s).2 = 0 → D = (readSm s).1)
theorem numL_drop (b : List Nat) (i j k : Nat) : numL (b.drop i) j k = numL b (i + j) k := by unfold numL; rw [List.drop_drop]
theorem ents_at {b : List Nat} {m j : Nat} (h : j < m) : (entsOf (b.drop 24) m)[j]? = some (fldEntry (numL b (24 + j * 9) 1 : Nat) (numL b (24 + j * 9 + 1) 2 : Nat) (numL b (24 + j * 9 + 3) 4 : Nat) (numL b (24 + j * 9 + 7) 2 : Nat)) := by
  unfold entsOf
  rw [List.getElem?_map, List.getElem?_range h]
  show some (entOf ((b.drop 24).drop (j * 9))) = _
  unfold entOf
  rw [List.drop_drop, numL_drop, numL_drop, numL_drop, numL_drop]
  rfl

set_option maxHeartbeats 6400000 in
theorem rreadSum_is (s : List Nat) (hs : s.length = 128) (hbs : Bytes s) (w : World) :
    Calls Try.prog 25 #[.agg (cells s)] w (RReadSumPost w s) := by
  have hz := zero_full
  have hzi := rzero_sum
  have hbld : ∀ W, (Instr.build 39 #[]).run Try.prog W = .ok (.agg #[.int .u64 0, .int .u64 0, .bool false, .int .i64 0, .int .u32 0, .slice none 0 0]) W := fun W => by kernel_rfl
  obtain ⟨d, hd1, hd2⟩ := rrow_sum
  have hsi : (Try.prog.info? 39).map (·.size) = some (#[.int .u64 0, .int .u64 0, .bool false, .int .i64 0, .int .u32 0, .slice none 0 0] : Array Value).size := rsize_sum
  have hone : (#[.int .u64 0, .int .u64 0, .bool false, .int .i64 0, .int .u32 0, .slice none 0 0] : Array Value).all (·.oneCell') = true := by simp [Value.oneCell']
  have b1 := below_box w (.cells (cells s) 41)
  have n1 := heap_alloc_new w (.cells (cells s) 41)
  obtain ⟨w1, hw1⟩ : ∃ w1, w.alloc (.cells (cells s) 41) = w1 := ⟨_, rfl⟩
  have hs1 : w1.heap.size = w.heap.size + 1 := by rw [← hw1]; simp
  rw [hw1] at b1 n1
  have b2 := below_box w1 (.cells #[.int .u64 0, .int .u64 0, .bool false, .int .i64 0, .int .u32 0, .slice none 0 0] 39)
  have n2 := heap_alloc_new w1 (.cells #[.int .u64 0, .int .u64 0, .bool false, .int .i64 0, .int .u32 0, .slice none 0 0] 39)
  have n1' := (b2.block w.heap.size (by omega)).trans n1
  have HB := Lib.hid (below_next b1 b2)
  rw [hs1] at n2
  obtain ⟨w2, hw2⟩ : ∃ w2, w1.alloc (.cells #[.int .u64 0, .int .u64 0, .bool false, .int .i64 0, .int .u32 0, .slice none 0 0] 39) = w2 := ⟨_, rfl⟩
  rw [hw2] at n2 n1' HB
  have hs2 : w2.heap.size = w.heap.size + 2 := by rw [← hw2]; simp [hs1]
  have HC := Lib.hid (block_cells hs n1')
  have HYES := Lib.hid (fun a b c d => readSm_yes (s := s) hbs a b c d)
  have HNO := Lib.hid (fun h => readSm_no (s := s) hs hbs h)
  have hbb := bodyL_byt hbs
  have BAD := Lib.hid (fun (V : World) (hV : Below w2.heap.size w2 V) => And.intro ((hV.block (w.heap.size + 1) (by omega)).trans n2) (And.intro (setRow_heap V (w.heap.size + 1) _ #[.int .u64 0, .int .u64 0, .bool false, .int .i64 0, .int .u32 0, .slice none 0 0] _ _ ((hV.block (w.heap.size + 1) (by omega)).trans n2)) (below_setRow (g := w.heap.size + 1) (HB.out.trans (hV.mono HB.out.size)) (by omega) #[.int .u64 0, .int .u64 0, .bool false, .int .i64 0, .int .u32 0, .slice none 0 0])))
  clear b1 n1 b2 n2 n1'
  go_enter Try.func25, Try.ntmps25
  go_wp2_with (refine wpList_load_full rfl (.tmp 1) rfl w.heap.size 0 s rfl hs HC.out ?_)
  refine (ropen_any s hs hbs w2).mono ?_
  rintro e w3 ⟨b3, h3⟩
  have K3 := Lib.hid b3
  have hs3 : w.heap.size + 1 < w3.heap.size := by have := b3.size; omega
  clear b3 hw1 hw2 hs1 HC
  rcases h3 with ⟨ho, a, cap, rfl, hrd, hc, hcm⟩ | ⟨ho, rfl⟩
  · obtain ⟨kd, hkd⟩ : ∃ kd, kindL s = kd := ⟨_, rfl⟩
    obtain ⟨B, hB⟩ : ∃ B, bodyL s = B := ⟨_, rfl⟩
    rw [hkd, hB] at HYES HNO
    rw [hB] at hbb hrd hc
    rw [hkd, hB]
    obtain ⟨len, hlen⟩ : ∃ len, B.length = len := ⟨_, rfl⟩
    rw [hlen] at hrd hc ⊢
    have HL := Lib.hid hlen
    have HBY := Lib.hid hbb
    have HO := Lib.hid ho
    unfold maxLen at hcm
    clear hkd hB hbb ho
    by_cases hk : kd = 3
    · subst hk
      by_cases hl24 : len < 24
      · have HF := Lib.hid (HNO.out (by rintro ⟨_, _, ⟨g, _⟩, _⟩; rw [HL.out] at g; omega))
        have hl24i : decide ((len : Int) < 24) = true := decide_eq_true (by omega)
        clear hrd hlen
        obtain ⟨nf, hd9, hb9⟩ := BAD.out w3 K3.out
        go_wp2_with (refine wpList_store_row rfl 39 _ _ rfl (w.heap.size + 1) #[.int .u64 0, .int .u64 0, .bool false, .int .i64 0, .int .u32 0, .slice none 0 0] (by go_simp) (by go_simp) _ _ nf hsi rfl hone ?_)
        refine bodyPost_ret (results_rsum rfl _ _ (w.heap.size + 1) _ _ _ rfl hd9 rfl) rfl ?_
        exact ⟨hb9, zeroD, .slice none 0 0, by rw [HF.out]; rfl, OwnsR'.nil _ _ _ _, fun h => by rw [HF.out] at h; cases h⟩
      · have hl24i : decide ((len : Int) < 24) = false := decide_eq_false (by omega)
        obtain ⟨bb, off, rfl⟩ := hrd.some_of (by omega)
        obtain ⟨c16, q16, hbl⟩ := byte_at hrd (i := 16) (by omega)
        obtain ⟨c17, q17, _⟩ := byte_at hrd (i := 17) (by omega)
        have hi16 : (16 : Int) < (len : Int) := by omega
        have hi17 : (17 : Int) < (len : Int) := by omega
        have HRD := Lib.hid hrd
        have HGB : Hid (¬ (numL B 16 1 ≤ 1 ∧ len = 24 + numL B 17 1 * 9) → readSm s = (zeroD, 21)) := Lib.hid (fun h => HNO.out (by rintro ⟨_, _, ⟨g0, g1, g2⟩, _⟩; rw [HL.out] at g2; exact h ⟨g1, g2⟩))
        have HGY : Hid (numL B 16 1 ≤ 1 → len = 24 + numL B 17 1 * 9 → GoodB B) := Lib.hid (fun h1 h2 => ⟨by rw [HL.out]; omega, h1, by rw [HL.out]; exact h2⟩)
        have HSO : Hid (sumOf B = ⟨numL B 0 8, numL B 8 8, decide (numL B 16 1 = 1), (numL B 18 2 : Nat), numL B 20 4, entsOf (B.drop 24) (numL B 17 1)⟩) := Lib.hid rfl
        have HEA := Lib.hid (fun (j : Nat) (h : j < numL B 17 1) => ents_at (b := B) h)
        have HEL : Hid ((entsOf (B.drop 24) (numL B 17 1)).length = numL B 17 1) := Lib.hid (by show _ = _; unfold entsOf; simp)
        have hlt0 := numL_lt HBY.out 0 8
        have hlt1 := numL_lt HBY.out 8 8
        have hlt3 := numL_lt HBY.out 18 2
        have hlt4 := numL_lt HBY.out 20 4
        have N0 := Lib.hid (fun c (W : World) hW => num_at HRD.out (i := 0) (k := 8) (by omega) (by decide) c W hW)
        have N1 := Lib.hid (fun c (W : World) hW => num_at HRD.out (i := 8) (k := 8) (by omega) (by decide) c W hW)
        have N3 := Lib.hid (fun c (W : World) hW => num_at HRD.out (i := 18) (k := 2) (by omega) (by decide) c W hW)
        have N4 := Lib.hid (fun c (W : World) hW => num_at HRD.out (i := 20) (k := 4) (by omega) (by decide) c W hW)
        rw [Nat.add_zero] at N0
        rw [show (256 : Nat) ^ 8 = 18446744073709551616 from rfl] at hlt0 hlt1
        rw [show (256 : Nat) ^ 2 = 65536 from rfl] at hlt3
        rw [show (256 : Nat) ^ 4 = 4294967296 from rfl] at hlt4
        obtain ⟨n0, hn0⟩ : ∃ n, numL B 0 8 = n := ⟨_, rfl⟩
        obtain ⟨n1, hn1⟩ : ∃ n, numL B 8 8 = n := ⟨_, rfl⟩
        obtain ⟨fl, hfl⟩ : ∃ n, numL B 16 1 = n := ⟨_, rfl⟩
        obtain ⟨m, hm⟩ : ∃ n, numL B 17 1 = n := ⟨_, rfl⟩
        obtain ⟨n3, hn3⟩ : ∃ n, numL B 18 2 = n := ⟨_, rfl⟩
        obtain ⟨n4, hn4⟩ : ∃ n, numL B 20 4 = n := ⟨_, rfl⟩
        rw [hn0] at N0 HSO hlt0
        rw [hn1] at N1 HSO hlt1
        rw [hn3] at N3 HSO hlt3
        rw [hn4] at N4 HSO hlt4
        rw [hfl] at HGB HGY HSO c16 q16
        rw [hm] at HGB HGY HSO HEA HEL c17 q17
        clear hn0 hn1 hfl hm hn3 hn4 hrd hlen
        have hwm : IntKind.i64.wrap (m : Int) = m := IntWalk.i64_in _ (by omega)
        have hw9 : IntKind.i64.wrap (9 * (m : Int)) = 9 * (m : Int) := IntWalk.i64_in _ (by omega)
        have hw24 : IntKind.i64.wrap (24 + 9 * (m : Int)) = 24 + 9 * (m : Int) := IntWalk.i64_in _ (by omega)
        by_cases hf1 : 1 < fl
        · have HF := Lib.hid (HGB.out (by omega))
          have hfi : decide ((1 : Int) < (fl : Int)) = true := decide_eq_true (by omega)
          clear hf1
          obtain ⟨nf, hd9, hb9⟩ := BAD.out w3 K3.out
          go_wp2_with (refine wpList_store_row rfl 39 _ _ rfl (w.heap.size + 1) #[.int .u64 0, .int .u64 0, .bool false, .int .i64 0, .int .u32 0, .slice none 0 0] (by go_simp) (by go_simp) _ _ nf hsi rfl hone ?_)
          refine bodyPost_ret (results_rsum rfl _ _ (w.heap.size + 1) _ _ _ rfl hd9 rfl) rfl ?_
          exact ⟨hb9, zeroD, .slice none 0 0, by rw [HF.out]; rfl, OwnsR'.nil _ _ _ _, fun h => by rw [HF.out] at h; cases h⟩
        · have hfi : decide ((1 : Int) < (fl : Int)) = false := decide_eq_false (by omega)
          by_cases hlm : len = 24 + m * 9
          · have hne : ((len : Int) != 24 + 9 * (m : Int)) = false := by simp; omega
            have HG := Lib.hid (HGY.out (by omega) hlm)
            obtain ⟨cb, hcb⟩ : ∃ cb, decide (fl = 1) = cb := ⟨_, rfl⟩
            have hcb2 : ((fl : Int) == 1) = cb := by
              rw [← hcb]
              have : fl = 0 ∨ fl = 1 := by omega
              rcases this with rfl | rfl <;> rfl
            rw [hcb] at HSO
            have hw3 : IntKind.i64.wrap (n3 : Int) = n3 := IntWalk.i64_in _ (by omega)
            have hw4 : IntKind.u32.wrap (n4 : Int) = n4 := by simp [IntKind.wrap, IntKind.signed, IntKind.bits]; omega
            have HLM := Lib.hid hlm
            have hm10 : m < 256 := q17
            clear hcb HGB HGY hf1 hlm
            go_upto_region 4 with (fail)
            clear c17 hwm hw9 hw24 hfi hl24i hi17 q16 q17 hne
            have hsl0 := fun W : World => slice_h bb off len cap (h := 8) (hi := 8) (by omega) (by omega) rfl W
            have hsl1 := fun W : World => slice_lh bb off len cap (l := 8) (h := 16) (n := 8) (li := 8) (hi := 16) (by omega) (by omega) (by omega) rfl rfl rfl rfl W
            have hsl3 := fun W : World => slice_lh bb off len cap (l := 18) (h := 20) (n := 2) (li := 18) (hi := 20) (by omega) (by omega) (by omega) rfl rfl rfl rfl W
            have hsl4 := fun W : World => slice_lh bb off len cap (l := 20) (h := 24) (n := 4) (li := 20) (hi := 24) (by omega) (by omega) (by omega) rfl rfl rfl rfl W
            have C16 := Lib.hid (fun (W : World) (hW : Below w3.heap.size w3 W) => (hW.cell (p := ⟨bb, off + 16, none⟩) hbl).trans c16)
            have H0 := (Below.refl w3.heap.size w3).drew
            have H1 := ((Below.refl w3.heap.size w3).alloc (Nat.le_refl _) (.cells #[.int .u64 0, .int .u64 0, .bool false, .int .i64 0, .int .u32 0, .slice none 0 0] 39)).drew
            have H2 := ((Below.refl w3.heap.size w3).alloc (Nat.le_refl _) (.cells #[.int .u64 (n0 : Int), .int .u64 (n1 : Int), .bool cb, .int .i64 (n3 : Int), .int .u32 (n4 : Int), .slice none 0 0] 39)).drew
            clear c16
            go_cut [7] (fun v7 wx => v7 = .pointer (some ⟨w3.heap.size, 0, none⟩) ∧ wx = (w3.alloc (.cells #[.int .u64 (n0 : Int), .int .u64 (n1 : Int), .bool cb, .int .i64 (n3 : Int), .int .u32 (n4 : Int), .slice none 0 0] 39)).drew)
            case first =>
              go_region_held3 (fun W => W.cell? ⟨bb, off + 16, none⟩ = some (.int .u8 (fl : Int))) (first | exact C16.out _ H0 | exact C16.out _ H1 | exact C16.out _ H2)
                ((first
                  | (go_at_call 88; (first | with_reducible refine (N0.out _ _ H0).mono ?_ | with_reducible refine (N0.out _ _ H1).mono ?_ | with_reducible refine (N1.out _ _ H0).mono ?_ | with_reducible refine (N1.out _ _ H1).mono ?_ | with_reducible refine (N3.out _ _ H0).mono ?_ | with_reducible refine (N3.out _ _ H1).mono ?_ | with_reducible refine (N4.out _ _ H0).mono ?_ | with_reducible refine (N4.out _ _ H1).mono ?_); rintro e w9 ⟨rfl, rfl⟩)))
              all_goals
                go_wp2
                go_meet
                exact ⟨rfl, rfl⟩
            case rest =>
              obtain ⟨rfl, rfl⟩ := hcut
              have hbx := heap_alloc_new w3 (.cells #[.int .u64 (n0 : Int), .int .u64 (n1 : Int), .bool cb, .int .i64 (n3 : Int), .int .u32 (n4 : Int), .slice none 0 0] 39)
              have HBX := Lib.hid (show ((w3.alloc (.cells #[.int .u64 (n0 : Int), .int .u64 (n1 : Int), .bool cb, .int .i64 (n3 : Int), .int .u32 (n4 : Int), .slice none 0 0] 39)).drew).heap[w3.heap.size]? = some (.cells #[.int .u64 (n0 : Int), .int .u64 (n1 : Int), .bool cb, .int .i64 (n3 : Int), .int .u32 (n4 : Int), .slice none 0 0] 39 (0, 0)) from hbx)
              have K5 := Lib.hid H2
              have hs5 : w3.heap.size + 1 ≤ ((w3.alloc (.cells #[.int .u64 (n0 : Int), .int .u64 (n1 : Int), .bool cb, .int .i64 (n3 : Int), .int .u32 (n4 : Int), .slice none 0 0] 39)).drew).heap.size := by show _ ≤ (w3.alloc _).heap.size; simp
              obtain ⟨w5, hw5⟩ : ∃ x, (w3.alloc (.cells #[.int .u64 (n0 : Int), .int .u64 (n1 : Int), .bool cb, .int .i64 (n3 : Int), .int .u32 (n4 : Int), .slice none 0 0] 39)).drew = x := ⟨_, rfl⟩
              rw [hw5] at HBX K5 hs5 ⊢
              obtain ⟨L, hL⟩ : ∃ L, entsOf (B.drop 24) m = L := ⟨_, rfl⟩
              rw [hL] at HSO HEA HEL
              have HUP : Hid (∀ x ∈ L, mayEntry x = false → readSm s = (zeroD, 21)) := Lib.hid (fun x hx hmx => HNO.out (by
                rintro ⟨_, _, _, hu⟩
                rw [HSO.out] at hu
                unfold upEntry at hu
                have := List.all_eq_true.1 (Bool.and_eq_true_iff.1 hu).2 x hx
                rw [hmx] at this
                cases this))
              have HUN : Hid (8 < m → readSm s = (zeroD, 21)) := Lib.hid (fun h8 => HNO.out (by
                rintro ⟨_, _, _, hu⟩
                rw [HSO.out] at hu
                have := upEntry_len hu
                rw [HEL.out] at this
                omega))
              have HUY : Hid (m ≤ 8 → (∀ x ∈ L, mayEntry x = true) → readSm s = (⟨n0, n1, cb, (n3 : Nat), n4, L⟩, 0)) := Lib.hid (fun h8 hall => by
                have hu : upEntry (sumOf B).list = true := by
                  rw [HSO.out]
                  unfold upEntry
                  rw [HEL.out, decide_eq_true h8, Bool.true_and]
                  exact List.all_eq_true.2 hall
                rw [HYES.out HO.out (by trivial) HG.out hu, HSO.out])
              clear hsl0 hsl1 hsl3 hsl4 C16 H0 H1 H2 hw3 hw4 hcb2 N0 N1 N3 N4 hbx hw5 hL hi16 hlt0 hlt1 hlt3 hlt4
              go_wp2_with fail
              go_loopw [8] (fun i wr => ∃ j p : Nat, j ≤ m ∧ Hid (p = 24 + j * 9) ∧ i = .int .i64 (p : Int) ∧ ∃ v, Hid (wr.heap[w3.heap.size]? = some (.cells #[.int .u64 (n0 : Int), .int .u64 (n1 : Int), .bool cb, .int .i64 (n3 : Int), .int .u32 (n4 : Int), v] 39 (0, 0))) ∧ Hid (OwnsR' (w3.heap.size + 1) wr 162 4 v ((L.take j).map rowV)) ∧ Hid (∀ x ∈ L.take j, mayEntry x = true) ∧ Hid (Below w3.heap.size w3 wr) ∧ Hid (w3.heap.size + 1 ≤ wr.heap.size)) (fun i _ => len - (intOf i).toNat)
              case atStart => exact ⟨0, 24, Nat.zero_le _, Lib.hid rfl, rfl, _, HBX, Lib.hid (OwnsR'.nil _ _ _ _), Lib.hid (by simp), K5, Lib.hid hs5⟩
              case round =>
                obtain ⟨j, p, hj, HP, rfl, v, HRW, HOV, HA, HBL, HSZ⟩ := hrel
                by_cases hlt : j < m
                · have hp9 : p + 9 ≤ len := by have h1 := HP.out; have h2 := HLM.out; omega
                  obtain ⟨cp, q0, _⟩ := byte_at HRD.out (i := p) (by omega)
                  have hx := HEA.out j hlt
                  rw [← HP.out] at hx
                  have C_P := Lib.hid (fun (W : World) (hW : Below w3.heap.size w3 W) => (hW.cell (p := ⟨bb, off + p, none⟩) hbl).trans cp)
                  have M1 := Lib.hid (fun c (W : World) hW => num_at HRD.out (i := p + 1) (k := 2) (by omega) (by decide) c W hW)
                  have M2 := Lib.hid (fun c (W : World) hW => num_at HRD.out (i := p + 3) (k := 4) (by omega) (by decide) c W hW)
                  have M3 := Lib.hid (fun c (W : World) hW => num_at HRD.out (i := p + 7) (k := 2) (by omega) (by decide) c W hW)
                  have q1 := numL_lt HBY.out (p + 1) 2
                  have q2 := numL_lt HBY.out (p + 3) 4
                  have q3 := numL_lt HBY.out (p + 7) 2
                  rw [show (256 : Nat) ^ 2 = 65536 from rfl] at q1 q3
                  rw [show (256 : Nat) ^ 4 = 4294967296 from rfl] at q2
                  obtain ⟨e0, he0⟩ : ∃ n, numL B p 1 = n := ⟨_, rfl⟩
                  obtain ⟨e1, he1⟩ : ∃ n, numL B (p + 1) 2 = n := ⟨_, rfl⟩
                  obtain ⟨e2, he2⟩ : ∃ n, numL B (p + 3) 4 = n := ⟨_, rfl⟩
                  obtain ⟨e3, he3⟩ : ∃ n, numL B (p + 7) 2 = n := ⟨_, rfl⟩
                  rw [he0, he1, he2, he3] at hx
                  rw [he0] at C_P q0
                  rw [he1] at M1 q1
                  rw [he2] at M2 q2
                  rw [he3] at M3 q3
                  have HX := Lib.hid hx
                  have hpl : (p : Int) < (len : Int) := by omega
                  have hp0 : (0 : Int) ≤ (p : Int) := by omega
                  clear cp hx he0 he1 he2 he3
                  go_upto_region 8 with (fail)
                  obtain ⟨k1, hk1⟩ : ∃ c, cap - (p + 1) = c := ⟨_, rfl⟩
                  obtain ⟨k3, hk3⟩ : ∃ c, cap - (p + 3) = c := ⟨_, rfl⟩
                  obtain ⟨k7, hk7⟩ : ∃ c, cap - (p + 7) = c := ⟨_, rfl⟩
                  have sl1 := fun W : World => slice_lh bb off len cap (l := p + 1) (h := p + 3) (n := 2) (c := k1) (li := (p : Int) + 1) (hi := (p : Int) + 3) (by omega) (by omega) (by omega) (by omega) (by omega) (by omega) hk1 W
                  have sl3 := fun W : World => slice_lh bb off len cap (l := p + 3) (h := p + 7) (n := 4) (c := k3) (li := (p : Int) + 3) (hi := (p : Int) + 7) (by omega) (by omega) (by omega) (by omega) (by omega) (by omega) hk3 W
                  have sl7 := fun W : World => slice_lh bb off len cap (l := p + 7) (h := p + 9) (n := 2) (c := k7) (li := (p : Int) + 7) (hi := (p : Int) + 9) (by omega) (by omega) (by omega) (by omega) (by omega) (by omega) hk7 W
                  have hs_1 : IntKind.i64.wrap ((p : Int) + 1) = (p : Int) + 1 := IntWalk.i64_in _ (by omega)
                  have hs_3 : IntKind.i64.wrap ((p : Int) + 3) = (p : Int) + 3 := IntWalk.i64_in _ (by omega)
                  have hs_7 : IntKind.i64.wrap ((p : Int) + 7) = (p : Int) + 7 := IntWalk.i64_in _ (by omega)
                  have hs_9 : IntKind.i64.wrap ((p : Int) + 9) = (p : Int) + 9 := IntWalk.i64_in _ (by omega)
                  have hw0 : IntKind.i64.wrap (e0 : Int) = e0 := IntWalk.i64_in _ (by omega)
                  have hw1 : IntKind.u32.wrap (e1 : Int) = e1 := by simp [IntKind.wrap, IntKind.signed, IntKind.bits]; omega
                  have hw2 : IntKind.u32.wrap (e2 : Int) = e2 := by simp [IntKind.wrap, IntKind.signed, IntKind.bits]; omega
                  have hw3 : IntKind.i64.wrap (e3 : Int) = e3 := IntWalk.i64_in _ (by omega)
                  have hze : ∀ W : World, (zeroValue 162).run Try.prog W = .ok (.agg #[.int .i64 0, .int .u32 0, .int .u32 0, .int .i64 0]) W := fun W => by kernel_rfl
                  have H0 := HBL.out.drew
                  have H1 := (HBL.out.alloc (by have := HSZ.out; omega) (.cells #[.int .i64 0, .int .u32 0, .int .u32 0, .int .i64 0] 162)).drew
                  have H2 := (HBL.out.alloc (by have := HSZ.out; omega) (.cells #[.int .i64 (e0 : Int), .int .u32 (e1 : Int), .int .u32 (e2 : Int), .int .i64 (e3 : Int)] 162)).drew
                  clear hk1 hk3 hk7
                  go_cut [9] (fun v9 wx => v9 = .pointer (some ⟨wr.heap.size, 0, none⟩) ∧ wx = (wr.alloc (.cells #[.int .i64 (e0 : Int), .int .u32 (e1 : Int), .int .u32 (e2 : Int), .int .i64 (e3 : Int)] 162)).drew)
                  case first =>
                    go_region_held3 (fun W => W.cell? ⟨bb, off + p, none⟩ = some (.int .u8 (e0 : Int))) (first | exact C_P.out _ H0 | exact C_P.out _ H1 | exact C_P.out _ H2)
                      ((first
                        | (go_at_call 88; (first | with_reducible refine (M1.out _ _ H0).mono ?_ | with_reducible refine (M1.out _ _ H1).mono ?_ | with_reducible refine (M2.out _ _ H0).mono ?_ | with_reducible refine (M2.out _ _ H1).mono ?_ | with_reducible refine (M3.out _ _ H0).mono ?_ | with_reducible refine (M3.out _ _ H1).mono ?_); rintro e w9 ⟨rfl, rfl⟩)))
                    all_goals
                      go_wp2
                      go_meet
                      exact ⟨rfl, rfl⟩
                  case rest =>
                    obtain ⟨rfl, rfl⟩ := hcut
                    have hen := heap_alloc_new wr (.cells #[.int .i64 (e0 : Int), .int .u32 (e1 : Int), .int .u32 (e2 : Int), .int .i64 (e3 : Int)] 162)
                    have HEN : Hid (((wr.alloc (.cells #[.int .i64 (e0 : Int), .int .u32 (e1 : Int), .int .u32 (e2 : Int), .int .i64 (e3 : Int)] 162)).drew).heap[wr.heap.size]? = some (.cells #[.int .i64 (e0 : Int), .int .u32 (e1 : Int), .int .u32 (e2 : Int), .int .i64 (e3 : Int)] 162 (0, 0))) := Lib.hid hen
                    have K6 := Lib.hid H2
                    have HR6 : Hid (((wr.alloc (.cells #[.int .i64 (e0 : Int), .int .u32 (e1 : Int), .int .u32 (e2 : Int), .int .i64 (e3 : Int)] 162)).drew).heap[w3.heap.size]? = some (.cells #[.int .u64 (n0 : Int), .int .u64 (n1 : Int), .bool cb, .int .i64 (n3 : Int), .int .u32 (n4 : Int), v] 39 (0, 0))) := Lib.hid (show (wr.alloc (.cells #[.int .i64 (e0 : Int), .int .u32 (e1 : Int), .int .u32 (e2 : Int), .int .i64 (e3 : Int)] 162)).heap[w3.heap.size]? = _ from ((below_box wr _).block w3.heap.size (by have := HSZ.out; omega)).trans HRW.out)
                    have HO6 : Hid (OwnsR' (w3.heap.size + 1) ((wr.alloc (.cells #[.int .i64 (e0 : Int), .int .u32 (e1 : Int), .int .u32 (e2 : Int), .int .i64 (e3 : Int)] 162)).drew) 162 4 v ((L.take j).map rowV)) := Lib.hid ((HOV.out.alloc _).below (below_drew _))
                    have hs6 : wr.heap.size + 1 = ((wr.alloc (.cells #[.int .i64 (e0 : Int), .int .u32 (e1 : Int), .int .u32 (e2 : Int), .int .i64 (e3 : Int)] 162)).drew).heap.size := by show _ = (wr.alloc _).heap.size; simp
                    obtain ⟨w6, hw6⟩ : ∃ x, (wr.alloc (.cells #[.int .i64 (e0 : Int), .int .u32 (e1 : Int), .int .u32 (e2 : Int), .int .i64 (e3 : Int)] 162)).drew = x := ⟨_, rfl⟩
                    rw [hw6] at HEN K6 HR6 HO6 hs6 ⊢
                    have f0 : w6.cell? ⟨wr.heap.size, 0, none⟩ = some (.int .i64 (e0 : Int)) := cell_of_row HEN.out 0
                    have f1 : w6.cell? ⟨wr.heap.size, 1, none⟩ = some (.int .u32 (e1 : Int)) := cell_of_row HEN.out 1
                    have f2 : w6.cell? ⟨wr.heap.size, 2, none⟩ = some (.int .u32 (e2 : Int)) := cell_of_row HEN.out 2
                    have f3 : w6.cell? ⟨wr.heap.size, 3, none⟩ = some (.int .i64 (e3 : Int)) := cell_of_row HEN.out 3
                    have HME : Hid (mayEntry (fldEntry (e0 : Int) (e1 : Int) (e2 : Int) (e3 : Int)) = decide (1 ≤ (e0 : Int) ∧ (e0 : Int) ≤ 6)) := Lib.hid rfl
                    have HWR := Lib.hid (show wr.heap.size + 1 = w6.heap.size from hs6)
                    clear hen hw6 sl1 sl3 sl7 hs_1 hs_3 hs_7 hw0 hw1 hw2 hw3 hze H0 H1 H2 M1 M2 M3 C_P hs6
                    by_cases hb0 : e0 < 1
                    · have HF := Lib.hid (HUP.out _ (List.mem_of_getElem? HX.out) (HME.out.trans (decide_eq_false (by omega))))
                      have hbi : decide ((e0 : Int) < 1) = true := decide_eq_true (by omega)
                      clear hb0
                      have K6' := Lib.hid (K3.out.trans (K6.out.mono K3.out.size))
                      obtain ⟨nf, hd9, hb9⟩ := BAD.out w6 K6'.out
                      go_wp2_with (refine wpList_store_row rfl 39 _ _ rfl (w.heap.size + 1) #[.int .u64 0, .int .u64 0, .bool false, .int .i64 0, .int .u32 0, .slice none 0 0] (by go_simp) (by go_simp) _ _ nf hsi rfl hone ?_)
                      refine bodyPost_ret (results_rsum rfl _ _ (w.heap.size + 1) _ _ _ rfl hd9 rfl) rfl ?_
                      exact ⟨hb9, zeroD, .slice none 0 0, by rw [HF.out]; rfl, OwnsR'.nil _ _ _ _, fun h => by rw [HF.out] at h; cases h⟩
                    · have hbi : decide ((e0 : Int) < 1) = false := decide_eq_false (by omega)
                      by_cases hb6 : 6 < e0
                      · have HF := Lib.hid (HUP.out _ (List.mem_of_getElem? HX.out) (HME.out.trans (decide_eq_false (by omega))))
                        have hbi6 : decide ((6 : Int) < (e0 : Int)) = true := decide_eq_true (by omega)
                        have K6' := Lib.hid (K3.out.trans (K6.out.mono K3.out.size))
                        clear hb0 hb6
                        obtain ⟨nf, hd9, hb9⟩ := BAD.out w6 K6'.out
                        go_wp2_with (refine wpList_store_row rfl 39 _ _ rfl (w.heap.size + 1) #[.int .u64 0, .int .u64 0, .bool false, .int .i64 0, .int .u32 0, .slice none 0 0] (by go_simp) (by go_simp) _ _ nf hsi rfl hone ?_)
                        refine bodyPost_ret (results_rsum rfl _ _ (w.heap.size + 1) _ _ _ rfl hd9 rfl) rfl ?_
                        exact ⟨hb9, zeroD, .slice none 0 0, by rw [HF.out]; rfl, OwnsR'.nil _ _ _ _, fun h => by rw [HF.out] at h; cases h⟩
                      · have hbi6 : decide ((6 : Int) < (e0 : Int)) = false := decide_eq_false (by omega)
                        have HMY := Lib.hid (HME.out.trans (decide_eq_true (by omega)))
                        clear hb0 hb6
                        obtain ⟨av, cv, rfl, _⟩ := owned_list HO6.out
                        have HTK : Hid ((L.take (j + 1)).map rowV = (L.take j).map rowV ++ [rowV (fldEntry (e0 : Int) (e1 : Int) (e2 : Int) (e3 : Int))]) := by
                          show _ = _
                          rw [List.take_add_one, HX.out, List.map_append]
                          rfl
                        have HLL : Hid (((L.take j).map rowV).length ≤ 1000) := by show _ ≤ _; rw [List.length_map, List.length_take]; omega
                        have c5 : w6.cell? ⟨w3.heap.size, 5, none⟩ = some (.slice av (L.take j).length cv) := cell_of_row HR6.out 5
                        obtain ⟨tk, htk⟩ : ∃ n, (L.take j).length = n := ⟨_, rfl⟩
                        rw [htk] at HO6 HR6 c5
                        have HO7 := Lib.hid (HO6.out.alloc (.cells #[.int .i64 (e0 : Int), .int .u32 (e1 : Int), .int .u32 (e2 : Int), .int .i64 (e3 : Int)] 162))
                        have K7 := Lib.hid (K6.out.alloc (by have := K6.out.size; omega) (.cells #[.int .i64 (e0 : Int), .int .u32 (e1 : Int), .int .u32 (e2 : Int), .int .i64 (e3 : Int)] 162))
                        have HR7 : Hid ((w6.alloc (.cells #[.int .i64 (e0 : Int), .int .u32 (e1 : Int), .int .u32 (e2 : Int), .int .i64 (e3 : Int)] 162)).heap[w3.heap.size]? = some (.cells #[.int .u64 (n0 : Int), .int .u64 (n1 : Int), .bool cb, .int .i64 (n3 : Int), .int .u32 (n4 : Int), .slice av tk cv] 39 (0, 0))) := Lib.hid (((below_box w6 _).block w3.heap.size (by have := HWR.out; have := HSZ.out; omega)).trans HR6.out)
                        have hrow : ∀ j' u, (rowV (fldEntry (e0 : Int) (e1 : Int) (e2 : Int) (e3 : Int)))[j']? = some u → (w6.alloc (.cells #[.int .i64 (e0 : Int), .int .u32 (e1 : Int), .int .u32 (e2 : Int), .int .i64 (e3 : Int)] 162)).cell? ⟨w6.heap.size, j', none⟩ = some u := fun j' u hu => (cell_of_row (heap_alloc_new w6 (.cells #[.int .i64 (e0 : Int), .int .u32 (e1 : Int), .int .u32 (e2 : Int), .int .i64 (e3 : Int)] 162)) j').trans ((List.getElem?_toArray (xs := rowV (fldEntry (e0 : Int) (e1 : Int) (e2 : Int) (e3 : Int)))).trans hu)
                        have HROW := Lib.hid hrow
                        have HS7 : Hid (w3.heap.size + 1 ≤ (w6.alloc (.cells #[.int .i64 (e0 : Int), .int .u32 (e1 : Int), .int .u32 (e2 : Int), .int .i64 (e3 : Int)] 162)).heap.size) := Lib.hid (by have := HWR.out; have := HSZ.out; simp; omega)
                        clear hrow htk
                        go_wp2_with (at_builtin; refine wpList_append_row_at rfl _ _ _ rfl (w3.heap.size + 1) 162 _ 4 24 Try.underlying37 rinfoEntry rfl (by decide) _ _ rfl HO7.out w6.heap.size 1 (rowV (fldEntry (e0 : Int) (e1 : Int) (e2 : Int) (e3 : Int))) (by go_simp) rfl HROW.out (fun u hu => by simp only [fldEntry, rowV, List.map_cons, List.map_nil, List.mem_cons, List.not_mem_nil, or_false] at hu; rcases hu with rfl | rfl | rfl | rfl <;> rfl) (by have := HLL.out; omega) (by have := HLL.out; unfold maxLen; omega) HS7.out ?_; intro v8 w8 o8 g8 _; rw [← HTK.out] at o8; obtain ⟨a8, q8, rfl, _⟩ := owned_list o8; generalize (L.take (j + 1)).length = n8 at o8 ⊢; have R8 := (g8.block w3.heap.size (by have := HS7.out; omega) (fun e => by have := (HO7.out.lt _ e.symm).1; omega)).trans HR7.out; have B8 := Lib.hid (K7.out.grown g8 K7.out.size (fun j hj => by have := (HO7.out.lt j hj).1; omega)); have S8 := Lib.hid (Nat.le_trans HS7.out g8.size); have O8 := Lib.hid o8; have c8 := cell_of_row R8 5; have fr8 := frozen_of_row w8 w3.heap.size 5 _ _ R8; have HR8 := Lib.hid R8; clear R8 o8 g8 c5)
                        go_roundw
                        case rel =>
                          refine ⟨j + 1, p + 9, by omega, Lib.hid (by have := HP.out; omega), by go_num, _, Lib.hid (heap_setCell_same w8 w3.heap.size 5 _ _ _ HR8.out), ?_, ?_, Lib.hid (below_set B8.out (Nat.le_refl _) _), ?_⟩
                          · show OwnsR' _ _ _ _ _ _
                            exact owns_same O8.out fun j hj => Below.heap_setCell _ _ _ _ (by have := (O8.out.lt j hj).1; show j ≠ w3.heap.size; omega)
                          · show ∀ x ∈ L.take (j + 1), _
                            intro y hy
                            rw [List.take_add_one, HX.out] at hy
                            rcases List.mem_append.1 hy with hy | hy
                            · exact HA.out y hy
                            · obtain rfl : y = fldEntry (e0 : Int) (e1 : Int) (e2 : Int) (e3 : Int) := by simpa using hy
                              exact HMY.out
                          · show _ ≤ _
                            have := S8.out
                            simpa [World.setCell] using this
                        case measure => simp [intOf]; omega
                · have hjm : j = m := by omega
                  subst hjm
                  have htl : L.take j = L := List.take_of_length_le (by rw [HEL.out]; exact Nat.le_refl _)
                  have hall := HA.out
                  rw [htl] at hall HOV
                  have hpe : p = len := by have h1 := HP.out; have h2 := HLM.out; omega
                  subst hpe
                  obtain ⟨av, cv, rfl, _⟩ := owned_list HOV.out
                  have hLj := HEL.out
                  rw [hLj] at HRW HOV
                  have HALL := Lib.hid hall
                  have S0 := Lib.hid (fun (W : World) (h : W.heap[w3.heap.size]? = some (.cells #[.int .u64 (n0 : Int), .int .u64 (n1 : Int), .bool cb, .int .i64 (n3 : Int), .int .u32 (n4 : Int), .slice av j cv] 39 (0, 0))) => (⟨cell_of_row h 0, cell_of_row h 1, cell_of_row h 2, cell_of_row h 3, cell_of_row h 4, cell_of_row h 5⟩ : W.cell? ⟨w3.heap.size, 0, none⟩ = some (.int .u64 (n0 : Int)) ∧ W.cell? ⟨w3.heap.size, 1, none⟩ = some (.int .u64 (n1 : Int)) ∧ W.cell? ⟨w3.heap.size, 2, none⟩ = some (.bool cb) ∧ W.cell? ⟨w3.heap.size, 3, none⟩ = some (.int .i64 (n3 : Int)) ∧ W.cell? ⟨w3.heap.size, 4, none⟩ = some (.int .u32 (n4 : Int)) ∧ W.cell? ⟨w3.heap.size, 5, none⟩ = some (.slice av j cv)))
                  have KR := Lib.hid (K3.out.trans (HBL.out.mono K3.out.size))
                  obtain ⟨nf, _, _⟩ := BAD.out wr KR.out
                  have hd9 : (((((((wr.setCell ⟨w.heap.size + 1, 0, none⟩ (.int .u64 (n0 : Int))).setCell ⟨w.heap.size + 1, 1, none⟩ (.int .u64 (n1 : Int))).setCell ⟨w.heap.size + 1, 2, none⟩ (.bool cb)).setCell ⟨w.heap.size + 1, 3, none⟩ (.int .i64 (n3 : Int))).setCell ⟨w.heap.size + 1, 4, none⟩ (.int .u32 (n4 : Int))).setCell ⟨w.heap.size + 1, 5, none⟩ (.slice av j cv)).drew).heap[w.heap.size + 1]? = some (.cells #[.int .u64 (n0 : Int), .int .u64 (n1 : Int), .bool cb, .int .i64 (n3 : Int), .int .u32 (n4 : Int), .slice av j cv] 39 (0, 0)) := six_rowD nf (.int .u64 (n0 : Int)) (.int .u64 (n1 : Int)) (.bool cb) (.int .i64 (n3 : Int)) (.int .u32 (n4 : Int)) (.slice av j cv)
                  have hb9 : Below w.heap.size w (((((((wr.setCell ⟨w.heap.size + 1, 0, none⟩ (.int .u64 (n0 : Int))).setCell ⟨w.heap.size + 1, 1, none⟩ (.int .u64 (n1 : Int))).setCell ⟨w.heap.size + 1, 2, none⟩ (.bool cb)).setCell ⟨w.heap.size + 1, 3, none⟩ (.int .i64 (n3 : Int))).setCell ⟨w.heap.size + 1, 4, none⟩ (.int .u32 (n4 : Int))).setCell ⟨w.heap.size + 1, 5, none⟩ (.slice av j cv)).drew) := (six_below (HB.out.trans (KR.out.mono HB.out.size)) (by omega) (.int .u64 (n0 : Int)) (.int .u64 (n1 : Int)) (.bool cb) (.int .i64 (n3 : Int)) (.int .u32 (n4 : Int)) (.slice av j cv)).drew
                  have HO9 : Hid (OwnsR' w.heap.size (((((((wr.setCell ⟨w.heap.size + 1, 0, none⟩ (.int .u64 (n0 : Int))).setCell ⟨w.heap.size + 1, 1, none⟩ (.int .u64 (n1 : Int))).setCell ⟨w.heap.size + 1, 2, none⟩ (.bool cb)).setCell ⟨w.heap.size + 1, 3, none⟩ (.int .i64 (n3 : Int))).setCell ⟨w.heap.size + 1, 4, none⟩ (.int .u32 (n4 : Int))).setCell ⟨w.heap.size + 1, 5, none⟩ (.slice av j cv)).drew) 162 4 (.slice av j cv) (L.map rowV)) := Lib.hid (six_owns HOV.out (by omega) (by omega) (.int .u64 (n0 : Int)) (.int .u64 (n1 : Int)) (.bool cb) (.int .i64 (n3 : Int)) (.int .u32 (n4 : Int)) (.slice av j cv))
                  obtain ⟨q0, q1, q2, q3, q4, q5⟩ := S0.out _ HRW.out
                  have k0 : wr.cell? ⟨w.heap.size + 1, 0, none⟩ = some (.int .u64 0) := cell_of_row nf 0
                  have f0 := frozen_of_row wr (w.heap.size + 1) 0 _ _ nf
                  have k1 : wr.cell? ⟨w.heap.size + 1, 1, none⟩ = some (.int .u64 0) := cell_of_row nf 1
                  have f1 := frozen_of_row wr (w.heap.size + 1) 1 _ _ nf
                  have k2 : wr.cell? ⟨w.heap.size + 1, 2, none⟩ = some (.bool false) := cell_of_row nf 2
                  have f2 := frozen_of_row wr (w.heap.size + 1) 2 _ _ nf
                  have k3 : wr.cell? ⟨w.heap.size + 1, 3, none⟩ = some (.int .i64 0) := cell_of_row nf 3
                  have f3 := frozen_of_row wr (w.heap.size + 1) 3 _ _ nf
                  have k4 : wr.cell? ⟨w.heap.size + 1, 4, none⟩ = some (.int .u32 0) := cell_of_row nf 4
                  have f4 := frozen_of_row wr (w.heap.size + 1) 4 _ _ nf
                  have k5 : wr.cell? ⟨w.heap.size + 1, 5, none⟩ = some (.slice none 0 0) := cell_of_row nf 5
                  have f5 := frozen_of_row wr (w.heap.size + 1) 5 _ _ nf
                  have hfin : ∀ b : Bool, b = decide (j ≤ 8) → (readSm s = if b then (⟨n0, n1, cb, (n3 : Nat), n4, L⟩, 0) else (zeroD, 21)) := fun b hb => by
                    by_cases h8 : j ≤ 8
                    · rw [hb, decide_eq_true h8]; exact HUY.out h8 HALL.out
                    · rw [hb, decide_eq_false h8]; exact HUN.out (by omega)
                  obtain ⟨b8, hb8⟩ : ∃ b, b = decide (j ≤ 8) := ⟨_, rfl⟩
                  have hle : decide ((j : Int) ≤ 8) = b8 := by rw [hb8, decide_eq_decide]; omega
                  have HF := Lib.hid (hfin b8 hb8)
                  have HD9 := Lib.hid hd9
                  have HB9 := Lib.hid hb9
                  clear htl hall nf hfin hb8 hLj hd9 hb9
                  go_upto_region 12 with (fail)
                  go_region
                  clear k0 k1 k2 k3 k4 k5 f0 f1 f2 f3 f4 f5 q0 q1 q2 q3 q4 q5
                  go_wp2
                  refine bodyPost_ret (results_rsum rfl _ _ (w.heap.size + 1) _ _ _ rfl HD9.out rfl) rfl ?_
                  refine ⟨HB9.out, ⟨n0, n1, cb, (n3 : Nat), n4, L⟩, .slice av j cv, ?_, HO9.out, ?_⟩
                  · rw [HF.out]
                    cases b8 <;> rfl
                  · intro h
                    rw [HF.out] at h ⊢
                    cases b8
                    · cases h
                    · rfl
          · have hne : ((len : Int) != 24 + 9 * (m : Int)) = true := by simp; omega
            have HF := Lib.hid (HGB.out (by omega))
            clear hlm hf1
            obtain ⟨nf, hd9, hb9⟩ := BAD.out w3 K3.out
            go_wp2_with (refine wpList_store_row rfl 39 _ _ rfl (w.heap.size + 1) #[.int .u64 0, .int .u64 0, .bool false, .int .i64 0, .int .u32 0, .slice none 0 0] (by go_simp) (by go_simp) _ _ nf hsi rfl hone ?_)
            refine bodyPost_ret (results_rsum rfl _ _ (w.heap.size + 1) _ _ _ rfl hd9 rfl) rfl ?_
            exact ⟨hb9, zeroD, .slice none 0 0, by rw [HF.out]; rfl, OwnsR'.nil _ _ _ _, fun h => by rw [HF.out] at h; cases h⟩
    · have HF := Lib.hid (HNO.out (by rintro ⟨_, h, _⟩; exact hk h))
      have hki : ((kd : Int) != 3) = true := by simp; omega
      clear hk hrd
      obtain ⟨nf, hd9, hb9⟩ := BAD.out w3 K3.out
      go_wp2_with (refine wpList_store_row rfl 39 _ _ rfl (w.heap.size + 1) #[.int .u64 0, .int .u64 0, .bool false, .int .i64 0, .int .u32 0, .slice none 0 0] (by go_simp) (by go_simp) _ _ nf hsi rfl hone ?_)
      refine bodyPost_ret (results_rsum rfl _ _ (w.heap.size + 1) _ _ _ rfl hd9 rfl) rfl ?_
      exact ⟨hb9, zeroD, .slice none 0 0, by rw [HF.out]; rfl, OwnsR'.nil _ _ _ _, fun h => by rw [HF.out] at h; cases h⟩
  · have HF := Lib.hid (HNO.out (by rintro ⟨h, _⟩; rw [ho] at h; cases h))
    clear ho
    obtain ⟨nf, hd9, hb9⟩ := BAD.out w3 K3.out
    go_wp2_with (refine wpList_store_row rfl 39 _ _ rfl (w.heap.size + 1) #[.int .u64 0, .int .u64 0, .bool false, .int .i64 0, .int .u32 0, .slice none 0 0] (by go_simp) (by go_simp) _ _ nf hsi rfl hone ?_)
    refine bodyPost_ret (results_rsum rfl _ _ (w.heap.size + 1) _ _ _ rfl hd9 rfl) rfl ?_
    exact ⟨hb9, zeroD, .slice none 0 0, by rw [HF.out]; rfl, OwnsR'.nil _ _ _ _, fun h => by rw [HF.out] at h; cases h⟩
end Go.Proofs.Ytplkglepbedhoaa
