/- The superblock, read by the program's walk. -/
import Derived.Test.YtgakidimipipeaaGreatGobamljda
namespace Go.Proofs.YtgakidimipipeaaGreat
open Go.RowKit Go.Sort
set_option linter.unusedVariables false
set_option maxRecDepth 100000

/-- The k-th number of a body; 0 where there is none. -/
def numAt (b : List Nat) (k : Nat) : Nat := if 4 * k + 4 ≤ b.length then le ((b.drop (4 * k)).take 4) else 0
theorem numAt_lt {b : List Nat} (h : Bytes b) (k : Nat) : numAt b k < 4294967296 := by
  unfold numAt
  split
  · have := le_lt ((b.drop (4 * k)).take 4) ((h.drop _).take 4)
    rw [show ((b.drop (4 * k)).take 4).length = 4 by simp; omega] at this
    exact this
  · decide

theorem number_any (a : Option Addr) (cap : Nat) (b : List Nat) (k : Int) (w : World) (hr : Reads w a b.length b) (hl : b.length ≤ 128) (hk0 : 0 ≤ k) (hk : k ≤ 2) :
    Calls Tryz.prog 61 #[.slice a b.length cap, .int .i64 k] w fun e w' => e = .returned (.int .i64 (numAt b k.toNat : Nat)) ∧ w = w' := by
  have hn := numAt_lt hr.2.1 k.toNat
  by_cases h : 4 * k.toNat + 4 ≤ b.length
  · have e : numAt b k.toNat = le ((b.drop (4 * k.toNat)).take 4) := if_pos h
    have HE := Lib.hid e
    rw [e] at hn
    have e2 : (k * 4).toNat = 4 * k.toNat := by omega
    have HK := Lib.hid e2
    clear e e2
    go_enter Tryz.func61, Tryz.ntmps61
    go_wp2_with fail
    refine (get_yes_int a b.length cap b (k * 4) 4 w hr (by unfold maxLen; omega) (by omega) (by decide) (by decide) (by omega)).mono ?_
    rintro e w' ⟨rfl, rfl⟩
    rw [HK.out]
    simp only [show (4 : Int).toNat = 4 from rfl]
    obtain ⟨n, hn'⟩ : ∃ n, le ((b.drop (4 * k.toNat)).take 4) = n := ⟨_, rfl⟩
    rw [hn'] at hn ⊢
    have HN := Lib.hid hn'
    clear hn'
    have hm : (n : Int) % 18446744073709551616 = n := by omega
    go_wp2
    go_ret
    exact ⟨by rw [HE.out, HN.out]; rfl, rfl⟩
  · have e : numAt b k.toNat = 0 := if_neg h
    have HE := Lib.hid e
    have hr0 := roomB_no (len := b.length) (p := k * 4) (q := 4) (by omega)
    have HR := Lib.hid hr0
    clear e hr0
    go_enter Tryz.func61, Tryz.ntmps61
    go_wp2_with fail
    refine (get_no a b.length cap (k * 4) 4 w (by unfold maxLen; omega) ⟨by omega, by omega⟩ (by unfold I64; decide) HR.out).mono ?_
    rintro e w' ⟨rfl, rfl⟩
    go_wp2
    go_ret
    exact ⟨by rw [HE.out]; rfl, rfl⟩

/-- What the program's Read reckons. -/
def bodyO (s : List Nat) : List Nat := if openB s then bodyL s else []
def superOf (s : List Nat) (k : Nat) : Nat := numAt (bodyO s) k
def isSuper (s : List Nat) : Bool := mayB (superOf s 0) (superOf s 1) (superOf s 2) && decide (superL (superOf s 0) (superOf s 1) (superOf s 2) = s)
def GReadPost (s : List Nat) (w : World) (e : Ending) (w' : World) : Prop :=
  Below w.heap.size w w' ∧ ((isSuper s = true ∧ e = .returned (.tuple #[.agg #[.int .i64 (superOf s 0 : Nat), .int .i64 (superOf s 1 : Nat), .int .i64 (superOf s 2 : Nat)], .int .i64 0])) ∨
    (isSuper s = false ∧ e = .returned (.tuple #[.agg #[.int .i64 0, .int .i64 0, .int .i64 0], .int .i64 21])))

theorem range_cells {w : World} {g off : Nat} {l : List Nat} (hl : l.length = 128) (hc : ∀ j, j < 128 → w.cell? ⟨g, off + j, none⟩ = some (byteV (l.getD j 0))) : w.rangeAt g off (l.map byteV) := fun j v hv => full_parts hl hc j v hv

/-- A sector, loaded at a step of a quiet region. -/
theorem quiet_load_sector {P : World → Prop} {o : Oper} {a : Act} {K : Act → Prop} (x : Operand) (ho : o.op = .load 31 x) (g off : Nat) (l : List Nat) (hx : a.eval x = .pointer (some ⟨g, off, none⟩)) (hl : l.length = 128)
    (hc : ∀ W, P W → ∀ j, j < 128 → W.cell? ⟨g, off + j, none⟩ = some (byteV (l.getD j 0))) (h : K (a.put o.dst (.agg (cells l)))) : o.quiet Tryz.prog a P K :=
  ⟨.agg (cells l), fun W hW => by
    unfold Oper.quietAt execOp
    simp only [ho, hx]
    rw [Sem.run_bind, run_loadAt_mid W g off 31 (l.map byteV) _ (range_cells hl (hc W hW)) row_sector rfl (by rw [size_sector, List.length_map, hl])]
    exact ⟨rfl, rfl⟩, h⟩

theorem box_regrown {w W : World} {g : Nat} {s : List Nat} {t : TypeId} (hs : s.length = 128) (h : W.heap[g]? = some (.cells (cells s) t (0, 0))) : ∀ W', (∃ p : Regrown, W' = grow (redrawn W p.d) p.os) → ∀ j, j < 128 → W'.cell? ⟨g, 0 + j, none⟩ = some (byteV (s.getD j 0)) := by
  rintro _ ⟨p, rfl⟩ j hj
  have hb := below_regrown W p.d p.os
  exact block_cells hs (by rw [hb.block g (Array.getElem?_eq_some_iff.1 h).1]; exact h) j hj

theorem set3_heap {w : World} {g : Nat} {x y z : Value} {t : TypeId} (a b c : Value) (h : w.heap[g]? = some (.cells #[x, y, z] t (0, 0))) :
    (((w.setCell ⟨g, 0, none⟩ a).setCell ⟨g, 1, none⟩ b).setCell ⟨g, 2, none⟩ c).heap[g]? = some (.cells #[a, b, c] t (0, 0)) := by
  have h1 := heap_setCell_same w g 0 _ _ a h
  have h2 := heap_setCell_same _ g 1 _ _ b h1
  have h3 := heap_setCell_same _ g 2 _ _ c h2
  exact h3
theorem size_geom : (Tryz.prog.info? 78).map (·.size) = some 3 := by kernel_rfl
theorem results_geom_tmp {fn : Func} {p u : Tmp} (h : fn.results = #[.cell p 78, .tmp u]) (tmps : Array Value) (w : World) (g : Nat) (a b c : Value) (t : TypeId) (fr : Nat × Nat) (hp : tmps.getD p undef = .pointer (some ⟨g, 0, none⟩))
    (hg : w.heap[g]? = some (.cells #[a, b, c] t fr)) : (results fn tmps).run Tryz.prog w = .ok (.tuple #[.agg #[a, b, c], tmps.getD u undef]) w := by
  rw [results_cell_tmp h, hp]
  simp only [asAddr, Sem.run_pure, Result.andThen_ok]
  rw [run_loadVar_row w g t 78 #[a, b, c] fr _ hg Tryz.underlying78 rfl (by rw [size_geom]; rfl)]
  rfl

set_option maxHeartbeats 1600000 in
theorem gread_any (s : List Nat) (hs : s.length = 128) (hb : Bytes s) (w : World) :
    Calls Tryz.prog 24 #[.agg (cells s)] w fun e w' => GReadPost s w e w' := by
  have hz := zero_sector
  have hg0 := heap_alloc_new w (.cells (cells s) 31)
  have hbA := (below_box w (.cells (cells s) 31)).alloc (by simp) (.cells #[.int .i64 0, .int .i64 0, .int .i64 0] 78)
  have hgA : ((w.alloc (.cells (cells s) 31)).alloc (.cells #[.int .i64 0, .int .i64 0, .int .i64 0] 78)).heap[w.heap.size]? = some (.cells (cells s) 31 (0, 0)) := by
    rw [Below.heap_alloc _ _ _ (by simp)]; exact hg0
  have hrA := heap_alloc2_new w (.cells (cells s) 31) (.cells #[.int .i64 0, .int .i64 0, .int .i64 0] 78)
  obtain ⟨W, hW⟩ : ∃ W, (w.alloc (.cells (cells s) 31)).alloc (.cells #[.int .i64 0, .int .i64 0, .int .i64 0] 78) = W := ⟨_, rfl⟩
  rw [hW] at hgA hrA hbA
  have HGA := Lib.hid hgA
  have HRA := Lib.hid hrA
  have hs1 : w.heap.size + 1 < W.heap.size := (Array.getElem?_eq_some_iff.1 hrA).1
  clear hg0 hgA hrA
  go_enter Tryz.func24, Tryz.ntmps24
  go_wp2_with (refine wpList_load_sector rfl (.tmp 1) rfl w.heap.size 0 s rfl hs (block_cells hs HGA.out) ?_)
  refine (open_any s hs hb _).mono ?_
  rintro e w1 ⟨b1, h1⟩
  have hG1 : w1.heap[w.heap.size]? = some (.cells (cells s) 31 (0, 0)) := by rw [b1.block _ (by omega)]; exact HGA.out
  have hR1 : w1.heap[w.heap.size + 1]? = some (.cells #[.int .i64 0, .int .i64 0, .int .i64 0] 78 (0, 0)) := by rw [b1.block _ (by omega)]; exact HRA.out
  have hB1 := below_next hbA b1
  have hkey : ∃ (kd er : Int) (a : Option Addr) (cap : Nat), e = .returned (.tuple #[.int .u8 kd, .slice a (bodyO s).length cap, .int .i64 er]) ∧ Reads w1 a (bodyO s).length (bodyO s) ∧ (bodyO s).length ≤ 128 := by
    rcases h1 with ⟨ho, a, cap, rfl, hrd⟩ | ⟨ho, rfl⟩
    · have : bodyO s = bodyL s := by unfold bodyO; rw [ho]; rfl
      rw [this]
      exact ⟨_, _, a, cap, rfl, hrd, bodyOf_length _ _ _⟩
    · have : bodyO s = [] := by unfold bodyO; rw [ho]; rfl
      rw [this]
      exact ⟨0, 21, none, 0, rfl, ⟨rfl, by intro x hx; simp at hx, .inl rfl⟩, by decide⟩
  obtain ⟨kd, er, a, cap, rfl, hrd, hl⟩ := hkey
  clear h1 b1 hbA hW
  have HG1 := Lib.hid hG1
  have HR1 := Lib.hid hR1
  have hs2 : w.heap.size + 1 < w1.heap.size := (Array.getElem?_eq_some_iff.1 hR1).1
  clear hG1 hR1 hs1
  have h0 : superOf s 0 < 4294967296 := numAt_lt hrd.2.1 0
  have h1 : superOf s 1 < 4294967296 := numAt_lt hrd.2.1 1
  have h2 : superOf s 2 < 4294967296 := numAt_lt hrd.2.1 2
  have E0 : Hid (superOf s 0 = numAt (bodyO s) 0) := rfl
  have E1 : Hid (superOf s 1 = numAt (bodyO s) 1) := rfl
  have E2 : Hid (superOf s 2 = numAt (bodyO s) 2) := rfl
  go_wp2_with fail
  refine (number_any a cap (bodyO s) 0 _ hrd hl (by decide) (by decide)).mono ?_
  rintro e w' ⟨rfl, rfl⟩
  go_wp2_with fail
  refine (number_any a cap (bodyO s) 1 _ hrd hl (by decide) (by decide)).mono ?_
  rintro e w' ⟨rfl, rfl⟩
  go_wp2_with fail
  refine (number_any a cap (bodyO s) 2 _ hrd hl (by decide) (by decide)).mono ?_
  rintro e w' ⟨rfl, rfl⟩
  rw [show Int.toNat 2 = 2 from rfl, ← E0.out, ← E1.out, ← E2.out]
  clear E0 E1 E2 hrd hl
  obtain ⟨n0, hn0⟩ : ∃ n0, superOf s 0 = n0 := ⟨_, rfl⟩
  obtain ⟨n1, hn1⟩ : ∃ n1, superOf s 1 = n1 := ⟨_, rfl⟩
  obtain ⟨n2, hn2⟩ : ∃ n2, superOf s 2 = n2 := ⟨_, rfl⟩
  have hIS : isSuper s = (mayB n0 n1 n2 && decide (superL n0 n1 n2 = s)) := by unfold isSuper; rw [hn0, hn1, hn2]
  rw [hn0] at h0 ⊢
  rw [hn1] at h1 ⊢
  rw [hn2] at h2 ⊢
  have HN0 := Lib.hid hn0
  have HN1 := Lib.hid hn1
  have HN2 := Lib.hid hn2
  have HIS := Lib.hid hIS
  clear hn0 hn1 hn2 hIS
  have hx2 := box3_new w1 (.int .i64 (n0 : Int)) (.int .i64 (n1 : Int)) (.int .i64 (n2 : Int)) 78
  have hb2 := below_box w1 (.cells #[.int .i64 (n0 : Int), .int .i64 (n1 : Int), .int .i64 (n2 : Int)] 78)
  have hm0 : (n0 : Int) % 18446744073709551616 = n0 := by omega
  go_wp2_with fail
  generalize w1.alloc (.cells #[.int .i64 (n0 : Int), .int .i64 (n1 : Int), .int .i64 (n2 : Int)] 78) = w2 at *
  have hB2 := below_next hB1 hb2
  have HG2 : Hid (w2.heap[w.heap.size]? = some (.cells (cells s) 31 (0, 0))) := by show _ = _; rw [hb2.block _ (by omega)]; exact HG1.out
  have HR2 : Hid (w2.heap[w.heap.size + 1]? = some (.cells #[.int .i64 0, .int .i64 0, .int .i64 0] 78 (0, 0))) := by show _ = _; rw [hb2.block _ hs2]; exact HR1.out
  have hs3 : w.heap.size + 1 < w2.heap.size := by have := hb2.size; omega
  clear hb2 hB1 HG1 HR1
  obtain ⟨hgx, c0, c1, c2⟩ := hx2
  have k0 := cell_regrown c0
  have k1 := cell_regrown c1
  have k2 := cell_regrown c2
  have HX : Hid (Box3 w2 w1.heap.size (.int .i64 (n0 : Int)) (.int .i64 (n1 : Int)) (.int .i64 (n2 : Int))) := ⟨hgx, c0, c1, c2⟩
  clear c0 c1 c2 hm0
  by_cases hM : mayB n0 n1 n2 = true
  · have HM := Lib.hid hM
    obtain ⟨hB, _⟩ := mayB_yes hM
    have HB := Lib.hid hB
    have HSL := Lib.hid (superL_length n0 n1 n2)
    have hneq := run_neq_sector (superL n0 n1 n2) s (superL_length _ _ _) hs
    have HD : Hid (isSuper s = decide (superL n0 n1 n2 = s)) := by show _ = _; rw [HIS.out, hM]; rfl
    clear hM hB
    by_cases hE : superL n0 n1 n2 = s
    · have hD : decide (superL n0 n1 n2 = s) = true := decide_eq_true hE
      have HF : Hid (isSuper s = true) := by show _ = _; rw [HD.out, hD]
      simp only [hD, Bool.not_true] at hneq
      clear hE hD HD
      refine wp_region_quiet_below (by kernel_rfl) (by kernel_rfl) ?_
      repeat (first
        | (go_big_quiet_want; (refine quiet_load_sector (.tmp 1) rfl w.heap.size 0 s rfl hs (box_regrown (w := w) hs HG2.out) ?_); go_simp; go_big_quiet_on)
        | go_big_quiet_step (first
          | (go_at_call 62; exact Calls.regrown_of (gcheck_yes _ HM.out))
          | (go_at_call 63; exact Calls.regrown_of (gsuper_nat _ HB.out))))
      refine wpQuiet_nil (regrown_name fun w3 b3 => ?_)
      have hB3 := below_next hB2 b3
      have HR3 : Hid (w3.heap[w.heap.size + 1]? = some (.cells #[.int .i64 0, .int .i64 0, .int .i64 0] 78 (0, 0))) := by show _ = _; rw [b3.block _ hs3]; exact HR2.out
      obtain ⟨r0, r1, r2, f0, f1, f2, hr⟩ := kept3_of HR3.out
      obtain ⟨hgy, d0, d1, d2⟩ := HX.out.below b3
      clear k0 k1 k2 b3 hB2 hneq
      go_wp2
      refine bodyPost_ret (results_geom_tmp rfl _ _ (w.heap.size + 1) _ _ _ _ _ rfl (set3_heap _ _ _ HR3.out)) rfl ⟨?_, .inl ⟨HF.out, ?_⟩⟩
      · repeat (first | with_reducible assumption | with_reducible refine Below.setCell ?_ (by simp) _)
      · rw [HN0.out, HN1.out, HN2.out]
        rfl
    · have hD : decide (superL n0 n1 n2 = s) = false := decide_eq_false hE
      have HF : Hid (isSuper s = false) := by show _ = _; rw [HD.out, hD]
      simp only [hD, Bool.not_false] at hneq
      clear hE hD HD
      refine wp_region_quiet_below (by kernel_rfl) (by kernel_rfl) ?_
      repeat (first
        | (go_big_quiet_want; (refine quiet_load_sector (.tmp 1) rfl w.heap.size 0 s rfl hs (box_regrown (w := w) hs HG2.out) ?_); go_simp; go_big_quiet_on)
        | go_big_quiet_step (first
          | (go_at_call 62; exact Calls.regrown_of (gcheck_yes _ HM.out))
          | (go_at_call 63; exact Calls.regrown_of (gsuper_nat _ HB.out))))
      refine wpQuiet_nil (regrown_name fun w3 b3 => ?_)
      have hB3 := below_next hB2 b3
      have HR3 : Hid (w3.heap[w.heap.size + 1]? = some (.cells #[.int .i64 0, .int .i64 0, .int .i64 0] 78 (0, 0))) := by show _ = _; rw [b3.block _ hs3]; exact HR2.out
      obtain ⟨r0, r1, r2, f0, f1, f2, hr⟩ := kept3_of HR3.out
      clear k0 k1 k2 b3 hB2 hneq
      go_wp2
      refine bodyPost_ret (results_geom_tmp rfl _ _ (w.heap.size + 1) _ _ _ _ _ rfl (set3_heap _ _ _ HR3.out)) rfl ⟨?_, .inr ⟨HF.out, rfl⟩⟩
      repeat (first | with_reducible assumption | with_reducible refine Below.setCell ?_ (by simp) _)
  · have HM : Hid (mayB n0 n1 n2 = false) := by show _ = _; simpa using hM
    have HF : Hid (isSuper s = false) := by show _ = _; rw [HIS.out, HM.out]; rfl
    clear hM
    refine wp_region_quiet_below (by kernel_rfl) (by kernel_rfl) ?_
    repeat (first
      | (go_big_quiet_want; (refine quiet_load_sector (.tmp 1) rfl w.heap.size 0 s rfl hs (box_regrown (w := w) hs HG2.out) ?_); go_simp; go_big_quiet_on)
      | go_big_quiet_step (first
        | (go_at_call 62; exact Calls.regrown_of (gcheck_no _ HM.out))))
    refine wpQuiet_nil (regrown_name fun w3 b3 => ?_)
    have hB3 := below_next hB2 b3
    have HR3 : Hid (w3.heap[w.heap.size + 1]? = some (.cells #[.int .i64 0, .int .i64 0, .int .i64 0] 78 (0, 0))) := by show _ = _; rw [b3.block _ hs3]; exact HR2.out
    obtain ⟨r0, r1, r2, f0, f1, f2, hr⟩ := kept3_of HR3.out
    clear k0 k1 k2 b3 hB2
    go_wp2
    refine bodyPost_ret (results_geom_tmp rfl _ _ (w.heap.size + 1) _ _ _ _ _ rfl (set3_heap _ _ _ HR3.out)) rfl ⟨?_, .inr ⟨HF.out, rfl⟩⟩
    repeat (first | with_reducible assumption | with_reducible refine Below.setCell ?_ (by simp) _)
end Go.Proofs.YtgakidimipipeaaGreat
