/- An inode, laid through a port, written and read. -/
import Derived.Test.YtedhfgadphjobaaLay
namespace Go.Proofs.Ytedhfgadphjobaa
open Go.RowKit Go.Sort
set_option linter.unusedVariables false
set_option linter.unusedSimpArgs false
set_option maxRecDepth 100000

def kindI (m : Nat) : IntKind := if m = 0 ∨ m = 1 ∨ m = 4 then .u32 else .i64
def widthI (m : Nat) : Nat := if m = 0 then 2 else if m = 2 then 1 else 4
def okZ (k : IntKind) (z : Int) : Prop := match k with
  | .u32 => 0 ≤ z ∧ z < 4294967296
  | .i64 => I64 z
  | _ => True
/-- The fields of an inode. -/
def IsInode (l : List FldD) : Prop := l.length = 15 ∧ ∀ m, m < 15 → ∃ z, l[m]? = some ⟨kindI m, widthI m, z⟩ ∧ okZ (kindI m) z

set_option maxHeartbeats 1600000 in
theorem layInode_is {l : List FldD} {gx : Nat} {w0 w : World} {pv : Value} {S : PS} (hl : IsInode l) (h : LayAt l gx 151 w0 pv S 0 w) :
    Calls Try.prog 117 #[pv, .pointer (some ⟨gx, 0, none⟩)] w fun e w' => e = .returned (.tuple #[]) ∧ LayAt l gx 151 w0 pv S 15 w' := by
  obtain ⟨_, hl⟩ := hl
  obtain ⟨z0, e0, k0⟩ := hl 0 (by decide)
  obtain ⟨z1, e1, k1⟩ := hl 1 (by decide)
  obtain ⟨z2, e2, k2⟩ := hl 2 (by decide)
  obtain ⟨z3, e3, k3⟩ := hl 3 (by decide)
  obtain ⟨z4, e4, k4⟩ := hl 4 (by decide)
  obtain ⟨z13, e13, k13⟩ := hl 13 (by decide)
  obtain ⟨z14, e14, k14⟩ := hl 14 (by decide)
  have HL := Lib.hid hl
  have H := Lib.hid h
  clear hl h
  go_enter Try.func117, Try.ntmps117
  go_wp2_with fail
  refine (lay_u32 (q := 2) H.out e0 k0 (by decide) (by decide)).mono ?_
  rintro e w1 ⟨rfl, h1⟩
  have H1 := Lib.hid h1
  clear h1 H
  go_wp2_with fail
  refine (lay_u32 (q := 4) H1.out e1 k1 (by decide) (by decide)).mono ?_
  rintro e w2 ⟨rfl, h2⟩
  have H2 := Lib.hid h2
  clear h2 H1
  go_wp2_with fail
  refine (lay_i64 (q := 1) H2.out e2 k2 (by decide) (by decide)).mono ?_
  rintro e w3 ⟨rfl, h3⟩
  have H3 := Lib.hid h3
  clear h3 H2
  go_wp2_with fail
  refine (lay_i64 (q := 4) H3.out e3 k3 (by decide) (by decide)).mono ?_
  rintro e w4 ⟨rfl, h4⟩
  have H4 := Lib.hid h4
  clear h4 H3
  go_wp2_with fail
  refine (lay_u32 (q := 4) H4.out e4 k4 (by decide) (by decide)).mono ?_
  rintro e w5 ⟨rfl, h5⟩
  have H5 := Lib.hid h5
  clear h5 H4
  go_wp2_with fail
  go_loopw [4, 30] (fun _ i wr => ∃ k : Nat, k ≤ 8 ∧ i = .int .i64 k ∧ LayAt l gx 151 w0 pv S (5 + k) wr) (fun _ i _ => 8 - (intOf i).toNat)
  case atStart => exact ⟨0, by decide, rfl, H5.out⟩
  case round =>
    obtain ⟨k, hk, rfl, hk5⟩ := hrel
    have HK := Lib.hid hk5
    clear hk5 H5
    by_cases hlt : k < 8
    · have hkI : (0 : Int) ≤ (k : Int) ∧ (k : Int) < 8 := by omega
      obtain ⟨z, e, kz⟩ := HL.out (5 + k) (by omega)
      have ek : kindI (5 + k) = .i64 := if_neg (by omega)
      have eq : widthI (5 + k) = 4 := by unfold widthI; rw [if_neg (by omega), if_neg (by omega)]
      rw [ek, eq] at e
      rw [ek] at kz
      go_wp2_with fail
      refine (lay_i64 (q := 4) HK.out e kz (by decide) (by decide)).mono ?_
      rintro e' w6 ⟨rfl, h6⟩
      have H6 := Lib.hid h6
      clear h6 HK e kz ek eq
      go_wp2
      go_roundw
      case rel => exact ⟨k + 1, by omega, by simp, H6.out⟩
      case measure => simp [intOf]; omega
    · obtain rfl : k = 8 := by omega
      go_wp2_with fail
      refine (lay_i64 (q := 4) HK.out e13 k13 (by decide) (by decide)).mono ?_
      rintro e w7 ⟨rfl, h7⟩
      have H7 := Lib.hid h7
      clear h7 HK
      go_wp2_with fail
      refine (lay_i64 (q := 4) H7.out e14 k14 (by decide) (by decide)).mono ?_
      rintro e w8 ⟨rfl, h8⟩
      have H8 := Lib.hid h8
      clear h8 H7
      go_wp2
      go_end0
      exact ⟨rfl, H8.out⟩

theorem owned_slice {w : World} {B : Nat} {e : TypeId} {size : Nat} {v : Value} {n : Nat} {xs : List Value} (h : w.ownsRow B e size v n xs) : ∃ a l c, v = .slice a l c := by
  obtain ⟨_, ⟨rfl, _⟩ | ⟨gc, cap, cur, rfl, _⟩⟩ := h
  · exact ⟨_, _, _, rfl⟩
  · exact ⟨_, _, _, rfl⟩

/-! ### part.Write -/
theorem isPort_new (w : World) : IsPort (w.alloc (.cells #[.slice none 0 0, .bool false] 177)) (.iface 178 (.pointer (some ⟨w.heap.size, 0, none⟩))) (.wr [] false) :=
  ⟨w.heap.size, .slice none 0 0, rfl, heap_alloc_new w _, owns_nil 0 _⟩
theorem away_new (w : World) {k : Nat} (hk : k < w.heap.size) : Away (w.alloc (.cells #[.slice none 0 0, .bool false] 177)) (.iface 178 (.pointer (some ⟨w.heap.size, 0, none⟩))) (.wr [] false) k :=
  (away_wr (v := .slice none 0 0) ⟨heap_alloc_new w _, owns_nil 0 _⟩).2 ⟨by omega, by intro e; cases e⟩
theorem stS_wr : ∀ (l : List FldD) (b : List Nat) (f : Bool), ∃ b' f', stS (.wr b f) l = .wr b' f'
  | [], b, f => ⟨b, f, rfl⟩
  | x :: l, b, f => by
    show ∃ b' f', stS (PS.next (.wr b f) x.width (u64of x.z)) l = .wr b' f'
    unfold PS.next
    dsimp only
    split
    · exact stS_wr l _ _
    · exact stS_wr l _ _
/-- What is written of fields, and whether one had no room. -/
def wrB (l : List FldD) : List Nat := match stS (.wr [] false) l with | .wr b _ => b | .rd _ => []
def wrF (l : List FldD) : Bool := match stS (.wr [] false) l with | .wr _ f => f | .rd _ => true
theorem stS_is (l : List FldD) : stS (.wr [] false) l = .wr (wrB l) (wrF l) := by
  obtain ⟨b, f, e⟩ := stS_wr l [] false
  unfold wrB wrF
  rw [e]
theorem owns_raise {B : Nat} {w : World} {v : Value} {l : List Nat} (h : Owns 0 w v l) (hB : ∀ k, k < B → v.ownBlock ≠ some k) : Owns B w v l := by
  obtain ⟨h1, h2, h3⟩ := h
  refine ⟨h1, h2, ?_⟩
  rcases h3 with h3 | ⟨g, cap, cur, rfl, _, r⟩
  · exact .inl h3
  · exact .inr ⟨g, cap, cur, rfl, Nat.le_of_not_lt fun hg => hB g hg rfl, r⟩

set_option maxHeartbeats 1600000 in
theorem pwrite_inode {l : List FldD} (hl : IsInode l) (hwd : widths l ≤ 2000) (w : World) :
    Calls Try.prog 132 #[.agg (cellsF l), .func (.func 117) #[] #[]] w fun e w' => Below w.heap.size w w' ∧
      ((wrF l = true ∧ e = .returned (.tuple #[.slice none 0 0, .int .i64 1])) ∨ (wrF l = false ∧ ∃ v, e = .returned (.tuple #[v, .int .i64 0]) ∧ Owns w.heap.size w' v (wrB l))) := by
  have b1 := below_box w (.cells (cellsF l) 151)
  have n1 := heap_alloc_new w (.cells (cellsF l) 151)
  obtain ⟨w1, hw1⟩ : ∃ w1, w.alloc (.cells (cellsF l) 151) = w1 := ⟨_, rfl⟩
  have hs1 : w1.heap.size = w.heap.size + 1 := by rw [← hw1]; simp
  rw [hw1] at b1 n1
  have b2 := below_box w1 (.cells #[.slice none 0 0, .bool false] 177)
  have hp := isPort_new w1
  have ha := fun k (hk : k < w1.heap.size) => away_new w1 hk
  have n2 := (b2.block w.heap.size (by omega)).trans n1
  have hst := layAt_start (l := l) hp n2 (ha w.heap.size (by omega)) (show ([] : List Nat).length + widths l ≤ 2000 by simpa using hwd)
  have HST := Lib.hid hst
  have HA := Lib.hid ha
  have HB2 := Lib.hid (below_next b1 b2)
  have HW1 := Lib.hid hw1
  clear b1 n1 b2 hp ha n2 hst
  go_enter Try.func132, Try.ntmps132
  go_wp2_with fail
  rw [hs1] at HST
  refine (layInode_is hl HST.out).mono ?_
  rintro e w3 ⟨rfl, h3⟩
  have hp3 := h3.passed
  rw [List.take_of_length_le (by rw [hl.1]; exact Nat.le_refl _), stS_is] at hp3
  obtain ⟨g, v, he, hw3, ho3⟩ := hp3.port
  obtain rfl : g = w.heap.size + 1 := by cases he; rfl
  have hb3 : Below w.heap.size w w3 := by
    have hb : Below w.heap.size (w1.alloc (.cells #[.slice none 0 0, .bool false] 177)) w3 := by
      refine ⟨hp3.os, hp3.tape, hp3.output, hp3.size, fun k hk => ?_⟩
      have := HA.out k (by omega)
      rw [hs1] at this
      exact hp3.block k (by simp; omega) this.apart (by omega)
    exact HB2.out.trans hb
  have hon : Owns w.heap.size w3 v (wrB l) := by
    refine owns_raise ho3 fun k hk => ?_
    have h1 := HA.out k (by omega)
    rw [hs1] at h1
    have h2 := hp3.away k (by simp; omega) h1
    exact ((away_wr ⟨hw3, ho3⟩).1 h2).2
  have c0 := cell_of_row hw3 0
  have c1 := cell_of_row hw3 1
  obtain ⟨av, lv, cpv, hv⟩ := owned_slice hon.2
  subst hv
  have HB3 := Lib.hid hb3
  have HO := Lib.hid hon
  clear hp3 hw3 ho3 hon hb3 h3 he HST HA HB2 HW1 hw1
  cases hf : wrF l with
  | true =>
    rw [hf] at c1
    go_wp2
    go_ret2
    exact ⟨HB3.out, .inl ⟨hf, rfl⟩⟩
  | false =>
    rw [hf] at c1
    go_wp2
    go_ret2
    exact ⟨HB3.out, .inr ⟨hf, _, rfl, HO.out⟩⟩

/-! ### part.Read -/
theorem isPort_rd {w : World} {a : Option Addr} {b : List Nat} {cap : Nat} (hr : Reads w a b.length b) (hc : b.length ≤ cap) (hm : cap ≤ maxLen) : IsPort (w.alloc (.cells #[.slice a b.length cap] 186)) (.iface 184 (.pointer (some ⟨w.heap.size, 0, none⟩))) (.rd b) := by
  refine ⟨w.heap.size, a, cap, rfl, heap_alloc_new w _, hr.alloc _, hc, hm, fun hb x hx => ?_⟩
  obtain ⟨_, _, h | ⟨blk, off, rfl, hlt, _⟩⟩ := hr
  · exact absurd h hb
  · cases hx; exact Nat.ne_of_lt hlt
theorem away_rd_new {w : World} {a : Option Addr} {b : List Nat} {cap : Nat} (hr : Reads w a b.length b) (hc : b.length ≤ cap) (hm : cap ≤ maxLen) {k : Nat} (hk : k < w.heap.size) (hne : b ≠ [] → ∀ x, a = some x → x.block ≠ k) :
    Away (w.alloc (.cells #[.slice a b.length cap] 186)) (.iface 184 (.pointer (some ⟨w.heap.size, 0, none⟩))) (.rd b) k := by
  obtain ⟨g, a', cap', he, h⟩ := isPort_rd hr hc hm
  obtain rfl : g = w.heap.size := by cases he; rfl
  refine (away_rd h).2 ⟨by omega, fun hb x hx => ?_⟩
  have h2 : IsRd (w.alloc (.cells #[.slice a b.length cap] 186)) w.heap.size a cap b := ⟨heap_alloc_new w _, hr.alloc _, hc, hm, fun hb x hx => by
    obtain ⟨_, _, h | ⟨blk, off, rfl, hlt, _⟩⟩ := hr
    · exact absurd h hb
    · cases hx; exact Nat.ne_of_lt hlt⟩
  obtain ⟨rfl, _⟩ := h.same h2
  exact hne hb x hx

/-- No inode. -/
def zeroI : List FldD := (List.range 15).map fun m => ⟨kindI m, widthI m, 0⟩
theorem zeroI_is : IsInode zeroI := by
  refine ⟨rfl, fun m hm => ⟨0, ?_, ?_⟩⟩
  · unfold zeroI
    rw [List.getElem?_map, List.getElem?_range hm]
    rfl
  · unfold okZ I64
    split <;> first | trivial | omega
/-- What is read of bytes. -/
def rdI (b : List Nat) : List FldD := stO (.rd b) zeroI
theorem stO_rd : ∀ (l : List FldD) (b : List Nat), Bytes b → (∀ x ∈ l, x.width ≤ 4) → ∀ (m : Nat) (x : FldD), l[m]? = some x → ∃ z : Int, (stO (.rd b) l)[m]? = some ⟨x.kind, x.width, z⟩ ∧ 0 ≤ z ∧ z < 4294967296
  | [], _, _, _, m, x, h => by simp at h
  | y :: l, b, hb, hw, 0, x, h => by
    simp only [List.getElem?_cons_zero, Option.some.injEq] at h
    subst h
    have h1 := num_lt hb y.width 0 (by have := hw y (List.mem_cons_self ..); omega)
    have h2 : 256 ^ y.width ≤ 4294967296 := Nat.le_trans (Nat.pow_le_pow_right (by omega) (hw y (List.mem_cons_self ..))) (by decide)
    exact ⟨_, rfl, Int.natCast_nonneg _, by show ((PS.num (.rd b) y.width 0 : Nat) : Int) < _; omega⟩
  | y :: l, b, hb, hw, m + 1, x, h => by
    have e : ∃ b', PS.next (.rd b) y.width (u64of y.z) = .rd b' ∧ Bytes b' := by
      unfold PS.next
      dsimp only
      split
      · exact ⟨_, rfl, hb.drop _⟩
      · exact ⟨_, rfl, by intro x hx; simp at hx⟩
    obtain ⟨b', e, hb'⟩ := e
    show ∃ z, (stO (PS.next (.rd b) y.width (u64of y.z)) l)[m]? = _ ∧ _
    rw [e]
    exact stO_rd l b' hb' (fun x hx => hw x (List.mem_cons_of_mem _ hx)) m x (by simpa using h)
theorem zeroI_width : ∀ x ∈ zeroI, x.width ≤ 4 := by decide
theorem rdI_is {b : List Nat} (hb : Bytes b) : IsInode (rdI b) := by
  refine ⟨by unfold rdI; rw [stO_length]; rfl, fun m hm => ?_⟩
  obtain ⟨z0, e0, _⟩ := zeroI_is.2 m hm
  obtain ⟨z, e, h1, h2⟩ := stO_rd zeroI b hb zeroI_width m _ e0
  refine ⟨z, e, ?_⟩
  unfold okZ I64
  split <;> first | trivial | omega

theorem zero_inode (w : World) : (zeroValue 151).run Try.prog w = .ok (.agg (cellsF zeroI)) w := by kernel_rfl
theorem size_inode : (Try.prog.info? 151).map (·.size) = some 15 := by kernel_rfl
theorem row_inode : ∃ d, Try.prog.underlying 151 = some d ∧ d.isRow = true := by
  cases h : Try.prog.underlying 151 with
  | none => exact absurd h (by decide)
  | some d =>
    refine ⟨d, rfl, ?_⟩
    have : (Try.prog.underlying 151).map (·.isRow) = some true := by kernel_rfl
    rw [h] at this
    simpa using this
theorem cellsF_size (l : List FldD) : (cellsF l).size = l.length := by simp [cellsF]
theorem cellsF_one (l : List FldD) : (cellsF l).all (·.oneCell') = true := by
  refine Array.all_eq_true_iff_forall_mem.2 fun v hv => ?_
  simp only [cellsF, List.mem_toArray, List.mem_map] at hv
  obtain ⟨x, _, rfl⟩ := hv
  rfl
theorem row_range {w : World} {g : Nat} {cs : Array Value} {t : TypeId} (h : w.heap[g]? = some (.cells cs t (0, 0))) : w.rangeAt g 0 cs.toList := fun j v hv => by
  rw [Nat.zero_add, cell_of_row h, ← hv]
  simp

set_option maxHeartbeats 1600000 in
theorem pread_inode {b : List Nat} {a : Option Addr} {cap : Nat} (w : World) (hr : Reads w a b.length b) (hc : b.length ≤ cap) (hm : cap ≤ maxLen) :
    Calls Try.prog 134 #[.slice a b.length cap, .func (.func 117) #[] #[]] w fun e w' => Below w.heap.size w w' ∧ e = .returned (.agg (cellsF (rdI b))) := by
  have hz := zero_inode
  obtain ⟨d, hd1, hd2⟩ := row_inode
  have b1 := below_box w (.cells (cellsF zeroI) 151)
  obtain ⟨w1, hw1⟩ : ∃ w1, w.alloc (.cells (cellsF zeroI) 151) = w1 := ⟨_, rfl⟩
  have hs1 : w1.heap.size = w.heap.size + 1 := by rw [← hw1]; simp
  have n1 := heap_alloc_new w (.cells (cellsF zeroI) 151)
  rw [hw1] at b1 n1
  have hr1 := hr.below b1
  have b2 := below_box w1 (.cells (cellsF zeroI) 151)
  have n2 := heap_alloc_new w1 (.cells (cellsF zeroI) 151)
  obtain ⟨w2, hw2⟩ : ∃ w2, w1.alloc (.cells (cellsF zeroI) 151) = w2 := ⟨_, rfl⟩
  have hs2 : w2.heap.size = w.heap.size + 2 := by rw [← hw2]; simp [hs1]
  rw [hw2] at b2 n2
  have hr2 := hr1.below b2
  have n12 := (b2.block w.heap.size (by omega)).trans n1
  have b3 := below_box w2 (.cells #[.slice a b.length cap] 186)
  have hab : b ≠ [] → ∀ x, a = some x → x.block < w.heap.size := by
    intro hb x hx
    obtain ⟨_, _, h | ⟨blk, off, rfl, hlt, _⟩⟩ := hr
    · exact absurd h hb
    · cases hx; exact hlt
  have ha := fun k (hk : k < w2.heap.size) (hkw : w.heap.size ≤ k) => away_rd_new hr2 hc hm hk (fun hb x hx => Nat.ne_of_lt (Nat.lt_of_lt_of_le (hab hb x hx) hkw))
  have n23 := (b3.block (w.heap.size + 1) (by omega)).trans (hs1 ▸ n2)
  have hst := layAt_start (l := zeroI) (isPort_rd hr2 hc hm) n23 (ha (w.heap.size + 1) (by omega) (by omega)) trivial
  have HST := Lib.hid hst
  have HA := Lib.hid ha
  have HB := Lib.hid (below_next (below_next b1 b2) b3)
  have N12 := Lib.hid ((b3.block w.heap.size (by omega)).trans n12)
  have HRD := Lib.hid hr
  clear n1 n2 n12 n23 b1 b2 b3 hr1 hr2 ha hst hr hab
  go_enter Try.func134, Try.ntmps134
  go_wp2_with fail
  rw [hs2] at HST HA
  refine (layInode_is zeroI_is HST.out).mono ?_
  rintro e w3 ⟨rfl, h3⟩
  have hp3 := h3.passed
  have hrow := h3.row
  have hfd : fieldsAt (.rd b) zeroI 15 = rdI b := by
    unfold fieldsAt rdI
    rw [List.take_of_length_le (by decide), List.drop_of_length_le (by decide), List.append_nil]
  rw [hfd] at hrow
  have hb3 : Below w.heap.size w w3 := by
    refine HB.out.trans ⟨hp3.os, hp3.tape, hp3.output, hp3.size, fun k hk => ?_⟩
    refine hp3.block k (by simp; omega) ?_ (by omega)
    obtain ⟨g, a', cap', he, h⟩ := HST.out.passed.port
    obtain rfl : g = w.heap.size + 2 := by cases he; rfl
    exact (apart_rd h).2 (by omega)
  have n3 : w3.heap[w.heap.size]? = some (.cells (cellsF zeroI) 151 (0, 0)) := by
    refine (hp3.block w.heap.size (by simp; omega) (HA.out _ (by omega) (Nat.le_refl _)).apart (by omega)).trans N12.out
  have hrg := row_range hrow
  have hl15 : (rdI b).length = 15 := by unfold rdI; rw [stO_length]; rfl
  have hsz : (cellsF (rdI b)).size = 15 := by rw [cellsF_size, hl15]
  have hszl : (cellsF (rdI b)).toList.length = 15 := by simpa using hsz
  have hsi : (Try.prog.info? 151).map (·.size) = some (cellsF (rdI b)).size := by rw [hsz]; exact size_inode
  have hsi2 : (Try.prog.info? 151).map (·.size) = some (cellsF (rdI b)).toList.length := by rw [hszl]; exact size_inode
  have hold : (cellsF zeroI).size = (cellsF (rdI b)).size := by rw [hsz]; rfl
  have hone := cellsF_one (rdI b)
  have HB3 := Lib.hid (below_setRow (g := w.heap.size) hb3 (Nat.le_refl _) (cellsF (rdI b)))
  have hfin := setRow_heap w3 w.heap.size _ (cellsF (rdI b)) _ _ n3
  clear HST HA HB N12 h3 hp3 hb3 hfd hw1 hw2
  go_wp2_with (first
    | refine wpList_load_mid rfl 151 _ rfl (w.heap.size + 1) 0 (by go_simp) (cellsF (rdI b)).toList d hrg hd1 hd2 hsi2 ?_
    | refine wpList_store_row rfl 151 _ _ rfl w.heap.size (cellsF (rdI b)) (by go_simp) (by go_simp) _ _ n3 hsi hold hone ?_)
  refine bodyPost_ret (results_cell_row rfl _ _ w.heap.size _ _ _ d rfl hfin hd1 (by cases d <;> first | rfl | exact hd2) hsi) rfl ?_
  exact ⟨HB3.out, rfl⟩
end Go.Proofs.Ytedhfgadphjobaa
