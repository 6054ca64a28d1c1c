/- Pointers, laid through a port, written and read. -/
import Derived.Test.YtedhfgadphjobaaInode
namespace Go.Proofs.Ytedhfgadphjobaa
open Go.RowKit Go.Sort
set_option linter.unusedVariables false
set_option linter.unusedSimpArgs false
set_option maxRecDepth 100000

/-- The fields of pointers. -/
def IsPtr (l : List FldD) : Prop := l.length = 32 ∧ ∀ m, m < 32 → ∃ z, l[m]? = some ⟨.i64, 4, z⟩ ∧ I64 z

set_option maxHeartbeats 1600000 in
theorem layPtr_is {l : List FldD} {gx : Nat} {w0 w : World} {pv : Value} {S : PS} (hl : IsPtr l) (h : LayAt l gx 100 w0 pv S 0 w) :
    Calls Try.prog 92 #[pv, .pointer (some ⟨gx, 0, none⟩)] w fun e w' => e = .returned (.tuple #[]) ∧ LayAt l gx 100 w0 pv S 32 w' := by
  obtain ⟨_, hl⟩ := hl
  have HL := Lib.hid hl
  have H := Lib.hid h
  clear hl h
  go_enter Try.func92, Try.ntmps92
  go_wp2_with fail
  go_loopw [4, 5] (fun _ i wr => ∃ k : Nat, k ≤ 32 ∧ i = .int .i64 k ∧ LayAt l gx 100 w0 pv S k wr) (fun _ i _ => 32 - (intOf i).toNat)
  case atStart => exact ⟨0, by decide, rfl, H.out⟩
  case round =>
    obtain ⟨k, hk, rfl, hk5⟩ := hrel
    have HK := Lib.hid hk5
    clear hk5 H
    by_cases hlt : k < 32
    · have hkI : (0 : Int) ≤ (k : Int) ∧ (k : Int) < 32 := by omega
      obtain ⟨z, e, kz⟩ := HL.out k hlt
      go_wp2_with fail
      refine (lay_i64 (q := 4) HK.out e kz (by decide) (by decide)).mono ?_
      rintro e' w6 ⟨rfl, h6⟩
      have H6 := Lib.hid h6
      clear h6 HK e kz
      go_wp2
      go_roundw
      case rel => exact ⟨k + 1, by omega, by simp, H6.out⟩
      case measure => simp [intOf]; omega
    · obtain rfl : k = 32 := by omega
      go_wp2
      go_end0
      exact ⟨rfl, HK.out⟩

set_option maxHeartbeats 1600000 in
theorem pwrite_ptr {l : List FldD} (hl : IsPtr l) (hwd : widths l ≤ 2000) (w : World) :
    Calls Try.prog 91 #[.agg (cellsF l), .func (.func 92) #[] #[]] w fun e w' => Below w.heap.size w w' ∧
      ((wrF l = true ∧ e = .returned (.tuple #[.slice none 0 0, .int .i64 1])) ∨ (wrF l = false ∧ ∃ v, e = .returned (.tuple #[v, .int .i64 0]) ∧ Owns w.heap.size w' v (wrB l))) := by
  have b1 := below_box w (.cells (cellsF l) 100)
  have n1 := heap_alloc_new w (.cells (cellsF l) 100)
  obtain ⟨w1, hw1⟩ : ∃ w1, w.alloc (.cells (cellsF l) 100) = w1 := ⟨_, rfl⟩
  have hs1 : w1.heap.size = w.heap.size + 1 := by rw [← hw1]; simp
  rw [hw1] at b1 n1
  have b2 := below_box w1 (.cells #[.slice none 0 0, .bool false] 177)
  have hp := isPort_new w1
  have ha := fun k (hk : k < w1.heap.size) => away_new w1 hk
  have n2 := (b2.block w.heap.size (by omega)).trans n1
  have hst := layAt_start (l := l) hp n2 (ha w.heap.size (by omega)) (show ([] : List Nat).length + widths l ≤ 2000 by simpa using hwd)
  have HST := Lib.hid hst
  have HA := Lib.hid ha
  have HB2 := Lib.hid (below_next b1 b2)
  have HW1 := Lib.hid hw1
  clear b1 n1 b2 hp ha n2 hst
  go_enter Try.func91, Try.ntmps91
  go_wp2_with fail
  rw [hs1] at HST
  refine (layPtr_is hl HST.out).mono ?_
  rintro e w3 ⟨rfl, h3⟩
  have hp3 := h3.passed
  rw [List.take_of_length_le (by rw [hl.1]; exact Nat.le_refl _), stS_is] at hp3
  obtain ⟨g, v, he, hw3, ho3⟩ := hp3.port
  obtain rfl : g = w.heap.size + 1 := by cases he; rfl
  have hb3 : Below w.heap.size w w3 := by
    have hb : Below w.heap.size (w1.alloc (.cells #[.slice none 0 0, .bool false] 177)) w3 := by
      refine ⟨hp3.os, hp3.tape, hp3.output, hp3.size, fun k hk => ?_⟩
      have := HA.out k (by omega)
      rw [hs1] at this
      exact hp3.block k (by simp; omega) this.apart (by omega)
    exact HB2.out.trans hb
  have hon : Owns w.heap.size w3 v (wrB l) := by
    refine owns_raise ho3 fun k hk => ?_
    have h1 := HA.out k (by omega)
    rw [hs1] at h1
    have h2 := hp3.away k (by simp; omega) h1
    exact ((away_wr ⟨hw3, ho3⟩).1 h2).2
  have c0 := cell_of_row hw3 0
  have c1 := cell_of_row hw3 1
  obtain ⟨av, lv, cpv, hv⟩ := owned_slice hon.2
  subst hv
  have HB3 := Lib.hid hb3
  have HO := Lib.hid hon
  clear hp3 hw3 ho3 hon hb3 h3 he HST HA HB2 HW1 hw1
  cases hf : wrF l with
  | true =>
    rw [hf] at c1
    go_wp2
    go_ret2
    exact ⟨HB3.out, .inl ⟨hf, rfl⟩⟩
  | false =>
    rw [hf] at c1
    go_wp2
    go_ret2
    exact ⟨HB3.out, .inr ⟨hf, _, rfl, HO.out⟩⟩


/-- No pointers. -/
def zeroP : List FldD := (List.range 32).map fun m => ⟨.i64, 4, 0⟩
theorem zeroP_is : IsPtr zeroP := by
  refine ⟨rfl, fun m hm => ⟨0, ?_, by unfold I64; omega⟩⟩
  unfold zeroP
  rw [List.getElem?_map, List.getElem?_range hm]
  rfl
/-- What is read of bytes. -/
def rdP (b : List Nat) : List FldD := stO (.rd b) zeroP
theorem zeroP_width : ∀ x ∈ zeroP, x.width ≤ 4 := by decide
theorem rdP_is {b : List Nat} (hb : Bytes b) : IsPtr (rdP b) := by
  refine ⟨by unfold rdP; rw [stO_length]; rfl, fun m hm => ?_⟩
  obtain ⟨z0, e0, _⟩ := zeroP_is.2 m hm
  obtain ⟨z, e, h1, h2⟩ := stO_rd zeroP b hb zeroP_width m _ e0
  exact ⟨z, e, by unfold I64; omega⟩
theorem zero_ptr (w : World) : (zeroValue 100).run Try.prog w = .ok (.agg (cellsF zeroP)) w := by kernel_rfl
theorem size_ptr : (Try.prog.info? 100).map (·.size) = some 32 := by kernel_rfl
theorem row_ptr : ∃ d, Try.prog.underlying 100 = some d ∧ d.isRow = true := by
  cases h : Try.prog.underlying 100 with
  | none => exact absurd h (by decide)
  | some d =>
    refine ⟨d, rfl, ?_⟩
    have : (Try.prog.underlying 100).map (·.isRow) = some true := by kernel_rfl
    rw [h] at this
    simpa using this

set_option maxHeartbeats 1600000 in
theorem pread_ptr {b : List Nat} {a : Option Addr} {cap : Nat} (w : World) (hr : Reads w a b.length b) (hc : b.length ≤ cap) (hm : cap ≤ maxLen) :
    Calls Try.prog 93 #[.slice a b.length cap, .func (.func 92) #[] #[]] w fun e w' => Below w.heap.size w w' ∧ e = .returned (.agg (cellsF (rdP b))) := by
  have hz := zero_ptr
  obtain ⟨d, hd1, hd2⟩ := row_ptr
  have b1 := below_box w (.cells (cellsF zeroP) 100)
  obtain ⟨w1, hw1⟩ : ∃ w1, w.alloc (.cells (cellsF zeroP) 100) = w1 := ⟨_, rfl⟩
  have hs1 : w1.heap.size = w.heap.size + 1 := by rw [← hw1]; simp
  have n1 := heap_alloc_new w (.cells (cellsF zeroP) 100)
  rw [hw1] at b1 n1
  have hr1 := hr.below b1
  have b2 := below_box w1 (.cells (cellsF zeroP) 100)
  have n2 := heap_alloc_new w1 (.cells (cellsF zeroP) 100)
  obtain ⟨w2, hw2⟩ : ∃ w2, w1.alloc (.cells (cellsF zeroP) 100) = w2 := ⟨_, rfl⟩
  have hs2 : w2.heap.size = w.heap.size + 2 := by rw [← hw2]; simp [hs1]
  rw [hw2] at b2 n2
  have hr2 := hr1.below b2
  have n12 := (b2.block w.heap.size (by omega)).trans n1
  have b3 := below_box w2 (.cells #[.slice a b.length cap] 186)
  have hab : b ≠ [] → ∀ x, a = some x → x.block < w.heap.size := by
    intro hb x hx
    obtain ⟨_, _, h | ⟨blk, off, rfl, hlt, _⟩⟩ := hr
    · exact absurd h hb
    · cases hx; exact hlt
  have ha := fun k (hk : k < w2.heap.size) (hkw : w.heap.size ≤ k) => away_rd_new hr2 hc hm hk (fun hb x hx => Nat.ne_of_lt (Nat.lt_of_lt_of_le (hab hb x hx) hkw))
  have n23 := (b3.block (w.heap.size + 1) (by omega)).trans (hs1 ▸ n2)
  have hst := layAt_start (l := zeroP) (isPort_rd hr2 hc hm) n23 (ha (w.heap.size + 1) (by omega) (by omega)) trivial
  have HST := Lib.hid hst
  have HA := Lib.hid ha
  have HB := Lib.hid (below_next (below_next b1 b2) b3)
  have N12 := Lib.hid ((b3.block w.heap.size (by omega)).trans n12)
  have HRD := Lib.hid hr
  clear n1 n2 n12 n23 b1 b2 b3 hr1 hr2 ha hst hr hab
  go_enter Try.func93, Try.ntmps93
  go_wp2_with fail
  rw [hs2] at HST HA
  refine (layPtr_is zeroP_is HST.out).mono ?_
  rintro e w3 ⟨rfl, h3⟩
  have hp3 := h3.passed
  have hrow := h3.row
  have hfd : fieldsAt (.rd b) zeroP  32 = rdP b := by
    unfold fieldsAt rdP
    rw [List.take_of_length_le (by decide), List.drop_of_length_le (by decide), List.append_nil]
  rw [hfd] at hrow
  have hb3 : Below w.heap.size w w3 := by
    refine HB.out.trans ⟨hp3.os, hp3.tape, hp3.output, hp3.size, fun k hk => ?_⟩
    refine hp3.block k (by simp; omega) ?_ (by omega)
    obtain ⟨g, a', cap', he, h⟩ := HST.out.passed.port
    obtain rfl : g = w.heap.size + 2 := by cases he; rfl
    exact (apart_rd h).2 (by omega)
  have n3 : w3.heap[w.heap.size]? = some (.cells (cellsF zeroP) 100 (0, 0)) := by
    refine (hp3.block w.heap.size (by simp; omega) (HA.out _ (by omega) (Nat.le_refl _)).apart (by omega)).trans N12.out
  have hrg := row_range hrow
  have hl15 : (rdP b).length =  32 := by unfold rdP; rw [stO_length]; rfl
  have hsz : (cellsF (rdP b)).size =  32 := by rw [cellsF_size, hl15]
  have hszl : (cellsF (rdP b)).toList.length =  32 := by simpa using hsz
  have hsi : (Try.prog.info? 100).map (·.size) = some (cellsF (rdP b)).size := by rw [hsz]; exact size_ptr
  have hsi2 : (Try.prog.info? 100).map (·.size) = some (cellsF (rdP b)).toList.length := by rw [hszl]; exact size_ptr
  have hold : (cellsF zeroP).size = (cellsF (rdP b)).size := by rw [hsz]; rfl
  have hone := cellsF_one (rdP b)
  have HB3 := Lib.hid (below_setRow (g := w.heap.size) hb3 (Nat.le_refl _) (cellsF (rdP b)))
  have hfin := setRow_heap w3 w.heap.size _ (cellsF (rdP b)) _ _ n3
  clear HST HA HB N12 h3 hp3 hb3 hfd hw1 hw2
  go_wp2_with (first
    | refine wpList_load_mid rfl 100 _ rfl (w.heap.size + 1) 0 (by go_simp) (cellsF (rdP b)).toList d hrg hd1 hd2 hsi2 ?_
    | refine wpList_store_row rfl 100 _ _ rfl w.heap.size (cellsF (rdP b)) (by go_simp) (by go_simp) _ _ n3 hsi hold hone ?_)
  refine bodyPost_ret (results_cell_row rfl _ _ w.heap.size _ _ _ d rfl hfin hd1 (by cases d <;> first | rfl | exact hd2) hsi) rfl ?_
  exact ⟨HB3.out, rfl⟩
end Go.Proofs.Ytedhfgadphjobaa
