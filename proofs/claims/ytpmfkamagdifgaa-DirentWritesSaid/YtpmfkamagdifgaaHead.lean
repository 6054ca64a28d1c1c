/- A region's header, laid through a port, written and read. -/
import Derived.Test.YtpmfkamagdifgaaPort
import Derived.Test.YtpmfkamagdifgaaPortU64
namespace Go.Proofs.Ytpmfkamagdifgaa
open Go.RowKit Go.Sort
set_option linter.unusedVariables false
set_option linter.unusedSimpArgs false
set_option maxRecDepth 100000

theorem lay_u64 {l : List FldD} {gx m : Nat} {t : TypeId} {w0 w : World} {pv : Value} {S : PS} {q : Nat} {z : Int} (h : LayAt l gx t w0 pv S m w) (hx : l[m]? = some ⟨.u64, q, z⟩) (hz : 0 ≤ z ∧ z < 18446744073709551616) (hq : 1 ≤ q) (hq8 : q ≤ 8) :
    Calls Try.prog 196 #[pv, .int .i64 q, .pointer (some ⟨gx, m, none⟩)] w fun e w' => e = .returned (.tuple #[]) ∧ LayAt l gx t w0 pv S (m + 1) w' := by
  obtain ⟨n, rfl⟩ := Int.eq_ofNat_of_zero_le hz.1
  have hn : n < 18446744073709551616 := by omega
  refine (pnum_u64 (h.passed.port) h.row (h.passed.away gx h.size h.away) q hq hq8 (h.fits hx) (fieldsAt_get hx) hn).mono ?_
  rintro e w' ⟨rfl, h1, h2⟩
  refine ⟨rfl, h.next hx ?_ ?_⟩
  · rw [h1]
    show some (Obj.cells (Array.setIfInBounds _ m (Value.int .u64 _)) t (0, 0)) = some (Obj.cells (Array.setIfInBounds _ m (Value.int .u64 ((stS S (l.take m)).numI q (n : Int)))) t (0, 0))
    rw [numI_nat]
  · show Passed gx w pv _ w' ((stS S (l.take m)).next q (u64of (n : Int)))
    rw [u64of_nat (by omega)]
    exact h2

def kindH (m : Nat) : IntKind := if m < 2 then .u64 else if m = 5 then .u32 else .i64
def widthH (m : Nat) : Nat := if m < 2 then 8 else if m = 5 then 4 else 2
def okH (k : IntKind) (z : Int) : Prop := match k with
  | .u64 => 0 ≤ z ∧ z < 18446744073709551616
  | .u32 => 0 ≤ z ∧ z < 4294967296
  | .i64 => I64 z
  | _ => True
/-- The fields of a header. -/
def IsHead (l : List FldD) : Prop := l.length = 6 ∧ ∀ m, m < 6 → ∃ z, l[m]? = some ⟨kindH m, widthH m, z⟩ ∧ okH (kindH m) z

set_option maxHeartbeats 1600000 in
theorem layHead_is {l : List FldD} {gx : Nat} {w0 w : World} {pv : Value} {S : PS} (hl : IsHead l) (h : LayAt l gx 70 w0 pv S 0 w) :
    Calls Try.prog 103 #[pv, .pointer (some ⟨gx, 0, none⟩)] w fun e w' => e = .returned (.tuple #[]) ∧ LayAt l gx 70 w0 pv S 6 w' := by
  obtain ⟨_, hl⟩ := hl
  obtain ⟨z0, e0, k0⟩ := hl 0 (by decide)
  obtain ⟨z1, e1, k1⟩ := hl 1 (by decide)
  obtain ⟨z2, e2, k2⟩ := hl 2 (by decide)
  obtain ⟨z3, e3, k3⟩ := hl 3 (by decide)
  obtain ⟨z4, e4, k4⟩ := hl 4 (by decide)
  obtain ⟨z5, e5, k5⟩ := hl 5 (by decide)
  have H := Lib.hid h
  clear hl h
  go_enter Try.func103, Try.ntmps103
  go_wp2_with fail
  refine (lay_u64 (q := 8) H.out e0 k0 (by decide) (by decide)).mono ?_
  rintro e w1 ⟨rfl, h1⟩
  have H1 := Lib.hid h1
  clear h1 H
  go_wp2_with fail
  refine (lay_u64 (q := 8) H1.out e1 k1 (by decide) (by decide)).mono ?_
  rintro e w2 ⟨rfl, h2⟩
  have H2 := Lib.hid h2
  clear h2 H1
  go_wp2_with fail
  refine (lay_i64 (q := 2) H2.out e2 k2 (by decide) (by decide)).mono ?_
  rintro e w3 ⟨rfl, h3⟩
  have H3 := Lib.hid h3
  clear h3 H2
  go_wp2_with fail
  refine (lay_i64 (q := 2) H3.out e3 k3 (by decide) (by decide)).mono ?_
  rintro e w4 ⟨rfl, h4⟩
  have H4 := Lib.hid h4
  clear h4 H3
  go_wp2_with fail
  refine (lay_i64 (q := 2) H4.out e4 k4 (by decide) (by decide)).mono ?_
  rintro e w5 ⟨rfl, h5⟩
  have H5 := Lib.hid h5
  clear h5 H4
  go_wp2_with fail
  refine (lay_u32 (q := 4) H5.out e5 k5 (by decide) (by decide)).mono ?_
  rintro e w6 ⟨rfl, h6⟩
  have H6 := Lib.hid h6
  clear h6 H5
  go_wp2
  go_end0
  exact ⟨rfl, H6.out⟩

set_option maxHeartbeats 1600000 in
theorem pwrite_head {l : List FldD} (hl : IsHead l) (hwd : widths l ≤ 2000) (w : World) :
    Calls Try.prog 195 #[.agg (cellsF l), .func (.func 103) #[] #[]] w fun e w' => Below w.heap.size w w' ∧
      ((wrF l = true ∧ e = .returned (.tuple #[.slice none 0 0, .int .i64 1])) ∨ (wrF l = false ∧ ∃ v, e = .returned (.tuple #[v, .int .i64 0]) ∧ Owns w.heap.size w' v (wrB l))) := by
  have b1 := below_box w (.cells (cellsF l) 70)
  have n1 := heap_alloc_new w (.cells (cellsF l) 70)
  obtain ⟨w1, hw1⟩ : ∃ w1, w.alloc (.cells (cellsF l) 70) = w1 := ⟨_, rfl⟩
  have hs1 : w1.heap.size = w.heap.size + 1 := by rw [← hw1]; simp
  rw [hw1] at b1 n1
  have b2 := below_box w1 (.cells #[.slice none 0 0, .bool false] 327)
  have hp := isPort_new w1
  have ha := fun k (hk : k < w1.heap.size) => away_new w1 hk
  have n2 := (b2.block w.heap.size (by omega)).trans n1
  have hst := layAt_start (l := l) hp n2 (ha w.heap.size (by omega)) (show ([] : List Nat).length + widths l ≤ 2000 by simpa using hwd)
  have HST := Lib.hid hst
  have HA := Lib.hid ha
  have HB2 := Lib.hid (below_next b1 b2)
  have HW1 := Lib.hid hw1
  clear b1 n1 b2 hp ha n2 hst
  go_enter Try.func195, Try.ntmps195
  go_wp2_with fail
  rw [hs1] at HST
  refine (layHead_is hl HST.out).mono ?_
  rintro e w3 ⟨rfl, h3⟩
  have hp3 := h3.passed
  rw [List.take_of_length_le (by rw [hl.1]; exact Nat.le_refl _), stS_is] at hp3
  obtain ⟨g, v, he, hw3, ho3⟩ := hp3.port
  obtain rfl : g = w.heap.size + 1 := by cases he; rfl
  have hb3 : Below w.heap.size w w3 := by
    have hb : Below w.heap.size (w1.alloc (.cells #[.slice none 0 0, .bool false] 327)) w3 := by
      refine ⟨hp3.os, hp3.tape, hp3.output, hp3.size, fun k hk => ?_⟩
      have := HA.out k (by omega)
      rw [hs1] at this
      exact hp3.block k (by simp; omega) this.apart (by omega)
    exact HB2.out.trans hb
  have hon : Owns w.heap.size w3 v (wrB l) := by
    refine owns_raise ho3 fun k hk => ?_
    have h1 := HA.out k (by omega)
    rw [hs1] at h1
    have h2 := hp3.away k (by simp; omega) h1
    exact ((away_wr ⟨hw3, ho3⟩).1 h2).2
  have c0 := cell_of_row hw3 0
  have c1 := cell_of_row hw3 1
  obtain ⟨av, lv, cpv, hv⟩ := owned_slice hon.2
  subst hv
  have HB3 := Lib.hid hb3
  have HO := Lib.hid hon
  clear hp3 hw3 ho3 hon hb3 h3 he HST HA HB2 HW1 hw1
  cases hf : wrF l with
  | true =>
    rw [hf] at c1
    go_wp2
    go_ret2
    exact ⟨HB3.out, .inl ⟨hf, rfl⟩⟩
  | false =>
    rw [hf] at c1
    go_wp2
    go_ret2
    exact ⟨HB3.out, .inr ⟨hf, _, rfl, HO.out⟩⟩


/-- No header. -/
def zeroH : List FldD := (List.range 6).map fun m => ⟨kindH m, widthH m, 0⟩
theorem zeroH_is : IsHead zeroH := by
  refine ⟨rfl, fun m hm => ⟨0, ?_, ?_⟩⟩
  · unfold zeroH
    rw [List.getElem?_map, List.getElem?_range hm]
    rfl
  · unfold okH I64
    split <;> first | trivial | omega
/-- What is read of bytes. -/
def rdH (b : List Nat) : List FldD := stO (.rd b) zeroH
theorem stO_rdw : ∀ (l : List FldD) (b : List Nat), Bytes b → (∀ x ∈ l, x.width ≤ 8) → ∀ (m : Nat) (x : FldD), l[m]? = some x → ∃ z : Int, (stO (.rd b) l)[m]? = some ⟨x.kind, x.width, z⟩ ∧ 0 ≤ z ∧ z < ((256 ^ x.width : Nat) : Int)
  | [], _, _, _, m, x, h => by simp at h
  | y :: l, b, hb, hw, 0, x, h => by
    simp only [List.getElem?_cons_zero, Option.some.injEq] at h
    subst h
    have h1 := num_lt hb y.width 0 (by have := hw y (List.mem_cons_self ..); omega)
    exact ⟨_, rfl, Int.natCast_nonneg _, by show ((PS.num (.rd b) y.width 0 : Nat) : Int) < _; exact_mod_cast h1⟩
  | y :: l, b, hb, hw, m + 1, x, h => by
    have e : ∃ b', PS.next (.rd b) y.width (u64of y.z) = .rd b' ∧ Bytes b' := by
      unfold PS.next
      dsimp only
      split
      · exact ⟨_, rfl, hb.drop _⟩
      · exact ⟨_, rfl, by intro x hx; simp at hx⟩
    obtain ⟨b', e, hb'⟩ := e
    show ∃ z, (stO (PS.next (.rd b) y.width (u64of y.z)) l)[m]? = _ ∧ _
    rw [e]
    exact stO_rdw l b' hb' (fun x hx => hw x (List.mem_cons_of_mem _ hx)) m x (by simpa using h)
theorem zeroH_width : ∀ x ∈ zeroH, x.width ≤ 8 := by decide
theorem rdH_is {b : List Nat} (hb : Bytes b) : IsHead (rdH b) := by
  refine ⟨by unfold rdH; rw [stO_length]; rfl, fun m hm => ?_⟩
  obtain ⟨z0, e0, _⟩ := zeroH_is.2 m hm
  obtain ⟨z, e, h1, h2⟩ := stO_rdw zeroH b hb zeroH_width m _ e0
  refine ⟨z, e, ?_⟩
  have hc : m = 0 ∨ m = 1 ∨ m = 2 ∨ m = 3 ∨ m = 4 ∨ m = 5 := by omega
  rcases hc with rfl | rfl | rfl | rfl | rfl | rfl
  · exact ⟨h1, by have : z < ((256 ^ 8 : Nat) : Int) := h2; omega⟩
  · exact ⟨h1, by have : z < ((256 ^ 8 : Nat) : Int) := h2; omega⟩
  · show I64 z; unfold I64; have : z < ((256 ^ 2 : Nat) : Int) := h2; omega
  · show I64 z; unfold I64; have : z < ((256 ^ 2 : Nat) : Int) := h2; omega
  · show I64 z; unfold I64; have : z < ((256 ^ 2 : Nat) : Int) := h2; omega
  · exact ⟨h1, by have : z < ((256 ^ 4 : Nat) : Int) := h2; omega⟩

theorem zero_head (w : World) : (zeroValue 70).run Try.prog w = .ok (.agg (cellsF zeroH)) w := by kernel_rfl
theorem size_head : (Try.prog.info? 70).map (·.size) = some 6 := by kernel_rfl
theorem row_head : ∃ d, Try.prog.underlying 70 = some d ∧ d.isRow = true := by
  cases h : Try.prog.underlying 70 with
  | none => exact absurd h (by decide)
  | some d =>
    refine ⟨d, rfl, ?_⟩
    have : (Try.prog.underlying 70).map (·.isRow) = some true := by kernel_rfl
    rw [h] at this
    simpa using this

set_option maxHeartbeats 1600000 in
theorem pread_head {b : List Nat} {a : Option Addr} {cap : Nat} (w : World) (hr : Reads w a b.length b) (hc : b.length ≤ cap) (hm : cap ≤ maxLen) :
    Calls Try.prog 197 #[.slice a b.length cap, .func (.func 103) #[] #[]] w fun e w' => Below w.heap.size w w' ∧ e = .returned (.agg (cellsF (rdH b))) := by
  have hz := zero_head
  obtain ⟨d, hd1, hd2⟩ := row_head
  have b1 := below_box w (.cells (cellsF zeroH) 70)
  obtain ⟨w1, hw1⟩ : ∃ w1, w.alloc (.cells (cellsF zeroH) 70) = w1 := ⟨_, rfl⟩
  have hs1 : w1.heap.size = w.heap.size + 1 := by rw [← hw1]; simp
  have n1 := heap_alloc_new w (.cells (cellsF zeroH) 70)
  rw [hw1] at b1 n1
  have hr1 := hr.below b1
  have b2 := below_box w1 (.cells (cellsF zeroH) 70)
  have n2 := heap_alloc_new w1 (.cells (cellsF zeroH) 70)
  obtain ⟨w2, hw2⟩ : ∃ w2, w1.alloc (.cells (cellsF zeroH) 70) = w2 := ⟨_, rfl⟩
  have hs2 : w2.heap.size = w.heap.size + 2 := by rw [← hw2]; simp [hs1]
  rw [hw2] at b2 n2
  have hr2 := hr1.below b2
  have n12 := (b2.block w.heap.size (by omega)).trans n1
  have b3 := below_box w2 (.cells #[.slice a b.length cap] 334)
  have hab : b ≠ [] → ∀ x, a = some x → x.block < w.heap.size := by
    intro hb x hx
    obtain ⟨_, _, h | ⟨blk, off, rfl, hlt, _⟩⟩ := hr
    · exact absurd h hb
    · cases hx; exact hlt
  have ha := fun k (hk : k < w2.heap.size) (hkw : w.heap.size ≤ k) => away_rd_new hr2 hc hm hk (fun hb x hx => Nat.ne_of_lt (Nat.lt_of_lt_of_le (hab hb x hx) hkw))
  have n23 := (b3.block (w.heap.size + 1) (by omega)).trans (hs1 ▸ n2)
  have hst := layAt_start (l := zeroH) (isPort_rd hr2 hc hm) n23 (ha (w.heap.size + 1) (by omega) (by omega)) trivial
  have HST := Lib.hid hst
  have HA := Lib.hid ha
  have HB := Lib.hid (below_next (below_next b1 b2) b3)
  have N12 := Lib.hid ((b3.block w.heap.size (by omega)).trans n12)
  have HRD := Lib.hid hr
  clear n1 n2 n12 n23 b1 b2 b3 hr1 hr2 ha hst hr hab
  go_enter Try.func197, Try.ntmps197
  go_wp2_with fail
  rw [hs2] at HST HA
  refine (layHead_is zeroH_is HST.out).mono ?_
  rintro e w3 ⟨rfl, h3⟩
  have hp3 := h3.passed
  have hrow := h3.row
  have hfd : fieldsAt (.rd b) zeroH  6 = rdH b := by
    unfold fieldsAt rdH
    rw [List.take_of_length_le (by decide), List.drop_of_length_le (by decide), List.append_nil]
  rw [hfd] at hrow
  have hb3 : Below w.heap.size w w3 := by
    refine HB.out.trans ⟨hp3.os, hp3.tape, hp3.output, hp3.size, fun k hk => ?_⟩
    refine hp3.block k (by simp; omega) ?_ (by omega)
    obtain ⟨g, a', cap', he, h⟩ := HST.out.passed.port
    obtain rfl : g = w.heap.size + 2 := by cases he; rfl
    exact (apart_rd h).2 (by omega)
  have n3 : w3.heap[w.heap.size]? = some (.cells (cellsF zeroH) 70 (0, 0)) := by
    refine (hp3.block w.heap.size (by simp; omega) (HA.out _ (by omega) (Nat.le_refl _)).apart (by omega)).trans N12.out
  have hrg := row_range hrow
  have hl15 : (rdH b).length =  6 := by unfold rdH; rw [stO_length]; rfl
  have hsz : (cellsF (rdH b)).size =  6 := by rw [cellsF_size, hl15]
  have hszl : (cellsF (rdH b)).toList.length =  6 := by simpa using hsz
  have hsi : (Try.prog.info? 70).map (·.size) = some (cellsF (rdH b)).size := by rw [hsz]; exact size_head
  have hsi2 : (Try.prog.info? 70).map (·.size) = some (cellsF (rdH b)).toList.length := by rw [hszl]; exact size_head
  have hold : (cellsF zeroH).size = (cellsF (rdH b)).size := by rw [hsz]; rfl
  have hone := cellsF_one (rdH b)
  have HB3 := Lib.hid (below_setRow (g := w.heap.size) hb3 (Nat.le_refl _) (cellsF (rdH b)))
  have hfin := setRow_heap w3 w.heap.size _ (cellsF (rdH b)) _ _ n3
  clear HST HA HB N12 h3 hp3 hb3 hfd hw1 hw2
  go_wp2_with (first
    | refine wpList_load_mid rfl 70 _ rfl (w.heap.size + 1) 0 (by go_simp) (cellsF (rdH b)).toList d hrg hd1 hd2 hsi2 ?_
    | refine wpList_store_row rfl 70 _ _ rfl w.heap.size (cellsF (rdH b)) (by go_simp) (by go_simp) _ _ n3 hsi hold hone ?_)
  refine bodyPost_ret (results_cell_row rfl _ _ w.heap.size _ _ _ d rfl hfin hd1 (by cases d <;> first | rfl | exact hd2) hsi) rfl ?_
  exact ⟨HB3.out, rfl⟩
end Go.Proofs.Ytpmfkamagdifgaa
