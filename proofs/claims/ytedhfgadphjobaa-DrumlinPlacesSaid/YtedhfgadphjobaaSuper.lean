/- The superblock, written by the program's walk. -/
import Derived.Test.YtedhfgadphjobaaGeo3
import Derived.Test.YtedhfgadphjobaaFull
namespace Go.Proofs.Ytedhfgadphjobaa
open Go.RowKit Go.Sort
set_option linter.unusedVariables false
set_option maxRecDepth 100000

/-! ### What is written -/
def superB (s g i : Nat) : List Nat := low s 4 ++ low g 4 ++ low i 4
def superL (s g i : Nat) : List Nat := sealL 1 (superB s g i)
theorem superB_length (s g i : Nat) : (superB s g i).length = 12 := by simp [superB, low_length]
theorem superB_bytes (s g i : Nat) : Bytes (superB s g i) := ((low_bytes s 4).append (low_bytes g 4)).append (low_bytes i 4)
theorem superL_length (s g i : Nat) : (superL s g i).length = 128 := sealL_length (by rw [superB_length]; decide)
theorem superL_bytes (s g i : Nat) : Bytes (superL s g i) := sealL_bytes (by decide) (superB_bytes s g i) (by rw [superB_length]; decide)

theorem laid_cells (l : List Nat) (p : Nat) (m : List Nat) : laid (cells l) p m = cells (l.take p ++ m ++ l.drop (p + m.length)) := by
  simp [laid, cells, List.map_take, List.map_drop]
def twelve : List Nat := [0, 0, 0, 0, 0, 0, 0, 0, 0, 0, 0, 0]
theorem make12 (w : World) : (Instr.makeSlice 33 (.int .i64 12) (.int .i64 12)).run Try.prog w = .ok (.slice (some ⟨w.heap.size, 0, none⟩) 12 12) (w.alloc (.cells (cells twelve) 5)) := by kernel_rfl
theorem three_puts (A B C : List Nat) (hA : A.length = 4) (hB : B.length = 4) (hC : C.length = 4) :
    laid (laid (laid (cells twelve) 0 A) 4 B) 8 C = cells (A ++ B ++ C) := by
  match A, hA, B, hB, C, hC with
  | [a0, a1, a2, a3], _, [b0, b1, b2, b3], _, [c0, c1, c2, c3], _ => rfl

theorem results_sector1 {fn : Func} {p : Tmp} (h : fn.results = #[.cell p 46]) (tmps : Array Value) (w : World) (g : Nat) (l : List Nat) (t : TypeId) (fr : Nat × Nat) (hp : tmps.getD p undef = .pointer (some ⟨g, 0, none⟩))
    (hg : w.heap[g]? = some (.cells (cells l) t fr)) (hl : l.length = 128) : (results fn tmps).run Try.prog w = .ok (.agg (cells l)) w :=
  results_cell_row h tmps w g t (cells l) fr _ hp hg row_sector rfl (by rw [size_sector, cells_size, hl])

/-- One more number into the twelve bytes. -/
theorem put_more (g : Nat) (cur : Array Value) (hs : cur.size = 12) (p : Int) (n : Int) (w : World) (hg : w.heap[g]? = some (.cells cur 5 (0, 0))) (hp : 0 ≤ p) (hp8 : p ≤ 8) (hn : 0 ≤ n) (hn2 : n ≤ 1000) :
    Calls Try.prog 71 #[.slice (some ⟨g, 0, none⟩) 12 12, .int .i64 p, .int .i64 4, .int .u64 n] w fun e w' => e = .returned (.int .i64 0) ∧ w'.heap[g]? = some (.cells (laid cur p.toNat (low n.toNat 4)) 5 (0, 0)) ∧ Only g w w' := by
  refine (put_yes_int g 0 12 12 cur _ p 4 n w hg (by omega) (by decide) hp (by decide) (by decide) (by omega) hn (by simp; omega)).mono ?_
  rintro e w' ⟨rfl, rfl⟩
  rw [Nat.zero_add]
  exact ⟨rfl, setRow_heap _ _ _ _ _ _ hg, (Only.refl g w).setRow _⟩
theorem laid_size12 (cur : Array Value) (hs : cur.size = 12) (p n : Nat) (hp : p ≤ 8) : (laid cur p (low n 4)).size = 12 := by
  rw [laid_size _ _ _ (by rw [low_length]; omega)]; exact hs

set_option maxHeartbeats 1600000 in
theorem gsuper_is {s g i : Int} (w : World) (h : bnd s g i) : Calls Try.prog 35 #[.agg #[.int .i64 s, .int .i64 g, .int .i64 i]] w fun e w' => e = .returned (.agg (cells (superL s.toNat g.toNat i.toNat))) ∧ Below w.heap.size w w' := by
  have hz := zero_sector
  have hmk := make12
  have hbd := h
  unfold bnd at hbd
  have hx0 := (box3_new w (.int .i64 s) (.int .i64 g) (.int .i64 i) 67).below ((below_box _ (.cells (cells noughts) 46)))
  have hn0 := heap_alloc2_new w (.cells #[.int .i64 s, .int .i64 g, .int .i64 i] 67) (.cells (cells noughts) 46)
  have hb0 := (below_box w (.cells #[.int .i64 s, .int .i64 g, .int .i64 i] 67)).alloc (by simp) (.cells (cells noughts) 46)
  obtain ⟨W, hW⟩ : ∃ W, (w.alloc (.cells #[.int .i64 s, .int .i64 g, .int .i64 i] 67)).alloc (.cells (cells noughts) 46) = W := ⟨_, rfl⟩
  have hWs : W.heap.size = w.heap.size + 2 := by rw [← hW]; simp
  rw [hW] at hx0 hb0 hn0
  have HWL : w.heap.size + 2 ≤ W.heap.size := by omega
  have hx1 := hx0.below (below_box W (.cells (cells twelve) 5))
  have hg1 := heap_alloc_new W (.cells (cells twelve) 5)
  have hb1 : Below W.heap.size W (W.alloc (.cells (cells twelve) 5)) := below_box _ _
  have Hg1 := Lib.hid hg1
  clear hWs hg1
  have hk1 : (s : Int) % 18446744073709551616 = s := by omega
  have hk2 : (g : Int) % 18446744073709551616 = g := by omega
  have hk3 : (i : Int) % 18446744073709551616 = i := by omega
  obtain ⟨hg, c0, c1, c2⟩ := hx1
  go_enter Try.func35, Try.ntmps35
  go_wp2_with fail
  refine (put_more W.heap.size _ rfl 0 s _ Hg1.out (by omega) (by omega) (by omega) (by omega)).mono ?_
  rintro e w1 ⟨rfl, hg2, o1⟩
  have Hg2 := Lib.hid hg2
  have b1 := hb1.trans (o1.below (B := W.heap.size) (Nat.le_refl _))
  obtain ⟨hgx, d0, d1, d2⟩ := Box3.kept ⟨hg, c0, c1, c2⟩ (o1.below (B := W.heap.size) (Nat.le_refl _)) (by omega)
  clear hg2 o1 c0 c1 c2 hg hb1 hx0
  go_wp2_with fail
  refine (put_more W.heap.size _ (laid_size12 _ rfl _ _ (by decide)) 4 g _ Hg2.out (by omega) (by omega) (by omega) (by omega)).mono ?_
  rintro e w2 ⟨rfl, hg3, o2⟩
  have Hg3 := Lib.hid hg3
  have b2 := b1.trans (o2.below (B := W.heap.size) (Nat.le_refl _))
  obtain ⟨hgy, c0, c1, c2⟩ := Box3.kept ⟨hgx, d0, d1, d2⟩ (o2.below (B := W.heap.size) (Nat.le_refl _)) (by omega)
  clear hg3 o2 d0 d1 d2 hgx b1 Hg1
  go_wp2_with fail
  refine (put_more W.heap.size _ (laid_size12 _ (laid_size12 _ rfl _ _ (by decide)) _ _ (by decide)) 8 i _ Hg3.out (by omega) (by omega) (by omega) (by omega)).mono ?_
  rintro e w3 ⟨rfl, hg4, o3⟩
  have b3 := b2.trans (o3.below (B := W.heap.size) (Nat.le_refl _))
  have e4 : laid (laid (laid (cells twelve) (Int.toNat 0) (low s.toNat 4)) (Int.toNat 4) (low g.toNat 4)) (Int.toNat 8) (low i.toNat 4) = cells (superB s.toNat g.toNat i.toNat) := three_puts _ _ _ (low_length _ _) (low_length _ _) (low_length _ _)
  rw [e4] at hg4
  have hlen := superB_length s.toNat g.toNat i.toNat
  have hbyt := superB_bytes s.toNat g.toNat i.toNat
  have hrd : Reads w3 (some ⟨W.heap.size, 0, none⟩) 12 (superB s.toNat g.toNat i.toNat) :=
    Reads.of_row hg4 hbyt hlen (fun j hj => by rw [Nat.zero_add]; simp [cells, List.getD, List.getElem?_eq_getElem (show j < (superB s.toNat g.toNat i.toNat).length by omega)])
  have hn3 : w3.heap[w.heap.size + 1]? = some (.cells (cells noughts) 46 (0, 0)) := by rw [b3.block _ (by omega)]; exact hn0
  have hbf : Below w.heap.size w w3 := hb0.trans (b3.mono (by omega))
  have HN := Lib.hid hn3
  clear e4 hg4 o3 b2 b3 hlen hbyt Hg2 Hg3 hn3 hn0 hb0 c0 c1 c2 hgy hk1 hk2 hk3 hmk hW hbd h
  obtain ⟨L, hL⟩ : ∃ L, superL s.toNat g.toNat i.toNat = L := ⟨_, rfl⟩
  have hSL : L.length = 128 := by rw [← hL]; exact superL_length _ _ _
  have hSE : sealL 1 (superB s.toNat g.toNat i.toNat) = L := hL
  have HL := Lib.hid hL
  clear hL
  generalize superB s.toNat g.toNat i.toNat = B at *
  have HSE := Lib.hid hSE
  have HSL := Lib.hid hSL
  clear hSE hSL
  go_wp2_with fail
  refine (make_ok 1 B _ _ _ _ hrd (by decide) (by decide) (by decide)).mono ?_
  rintro e w4 ⟨rfl, b4⟩
  rw [HSE.out]
  have hs4 := b4.size
  have hbf4 := below_next hbf b4
  have hn4 : (w4.alloc (.cells (cells L) 46)).heap[w.heap.size + 1]? = some (.cells (cells noughts) 46 (0, 0)) := by
    have hl : w.heap.size + 1 < w3.heap.size := (Array.getElem?_eq_some_iff.1 HN.out).1
    rw [Below.heap_alloc _ _ _ (by omega), b4.block _ hl]; exact HN.out
  have Hn4 := Lib.hid hn4
  have hbf5 := hbf4.alloc hbf4.size (.cells (cells L) 46)
  have HC5 := Lib.hid (box_cells (w := w4) HSL.out (heap_alloc_new w4 (.cells (cells L) 46)))
  clear hn4 hrd hbf b4 hbf4
  go_wp2_with (first | (refine wpList_store_sector rfl (.tmp 4) (.tmp 25) rfl w4.heap.size L rfl rfl HSL.out _ _ (heap_alloc_new w4 _) rfl ?_; rw [World.setRow_alloc_new]) | (refine wpList_load_sector rfl (.tmp 4) rfl w4.heap.size 0 L rfl HSL.out HC5.out ?_) | (refine wpList_store_sector rfl (.tmp 2) (.tmp 27) rfl (w.heap.size + 1) L rfl rfl HSL.out _ _ Hn4.out rfl ?_))
  exact bodyPost_ret (results_sector1 rfl _ _ (w.heap.size + 1) L _ _ rfl (setRow_heap _ _ _ _ _ _ Hn4.out) HSL.out) rfl ⟨by rw [HL.out], below_setRow hbf5 (by omega) _⟩

theorem gsuper_nat {s g i : Nat} (w : World) (h : bnd s g i) : Calls Try.prog 35 #[.agg #[.int .i64 s, .int .i64 g, .int .i64 i]] w fun e w' => e = .returned (.agg (cells (superL s g i))) ∧ Below w.heap.size w w' := by
  have := gsuper_is w h
  simpa only [Int.toNat_natCast] using this
end Go.Proofs.Ytedhfgadphjobaa
