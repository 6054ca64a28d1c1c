/- Sealing, by its walks. Two sectors, compared as arrays. Opening a sealed sector, by its walks. -/
import Derived.Test.YtgakidimipipeaaSector
import Derived.Deep.DeepCutAuto
import Derived.Deep.WholeRow
import Derived.Laws.StructEq
namespace Go.Proofs.Ytgakidimipipeaa
open Go.RowKit
set_option linter.unusedVariables false
set_option maxRecDepth 100000

/-! ### The writer's steps, in one form -/
def wNum (st : List Nat × Bool) (q : Int) (n : Nat) : List Nat × Bool :=
  if st.2 then (st.1, true) else if roomB 128 st.1.length q && hasB q n then (st.1 ++ low n q.toNat, false) else (st.1, true)
def wBytes (st : List Nat × Bool) (q : Int) (b : List Nat) : List Nat × Bool :=
  if st.2 then (st.1, true) else if (b.length : Int) ≤ q ∧ q ≤ 128 - (st.1.length : Int) then (st.1 ++ b ++ List.replicate (q.toNat - b.length) 0, false) else (st.1, true)

theorem writer_num (g : Nat) (st : List Nat × Bool) (q : Int) (n : Nat) (w : World) (h : IsWriter w g st.1 st.2) (hq : I64 q) (hn : n < 18446744073709551616) :
    Calls Try.prog 133 #[.pointer (some ⟨g, 0, none⟩), .int .i64 q, .int .u64 n] w fun e w' => e = .returned (.tuple #[]) ∧ IsWriter w' g (wNum st q n).1 (wNum st q n).2 ∧ Only g w w' := by
  obtain ⟨l, f⟩ := st
  cases f with
  | true => exact writer_num_failed g l q n w h
  | false =>
    by_cases hok : roomB 128 l.length q = true ∧ hasB q n = true
    · obtain ⟨k1, k2, k3, k4⟩ := roomB_yes hok.1
      obtain ⟨q, rfl⟩ := Int.eq_ofNat_of_zero_le (show 0 ≤ q by omega)
      have h3 := of_decide_eq_true hok.2
      rw [Int.toNat_natCast] at h3
      have e : wNum (l, false) q n = (l ++ low n q, false) := by simp [wNum, hok.1, hok.2]
      rw [e]
      exact writer_num_ok g l q n w h (by omega) (by omega) (by omega) h3.2.2
    · have e : wNum (l, false) q n = (l, true) := by
        unfold wNum
        rw [if_neg (by simp), if_neg (by simpa using hok)]
      rw [e]
      refine writer_num_no g l q n w h hq hn ?_
      by_cases h1 : roomB 128 l.length q = true
      · exact .inr (by simpa [h1] using hok)
      · exact .inl (by simpa using h1)

theorem writer_bytes (g : Nat) (st : List Nat × Bool) (b : List Nat) (q : Int) (a : Option Addr) (len cap : Nat) (w : World) (h : IsWriter w g st.1 st.2) (hr : Reads w a len b) (hq : I64 q) (hl : len ≤ maxLen) :
    Calls Try.prog 134 #[.pointer (some ⟨g, 0, none⟩), .int .i64 q, .slice a len cap] w fun e w' => e = .returned (.tuple #[]) ∧ IsWriter w' g (wBytes st q b).1 (wBytes st q b).2 ∧ Only g w w' := by
  obtain ⟨l, f⟩ := st
  cases f with
  | true => exact writer_bytes_failed g l q a len cap w h
  | false =>
    have hlen := hr.1
    by_cases hok : (b.length : Int) ≤ q ∧ q ≤ 128 - (l.length : Int)
    · obtain ⟨q, rfl⟩ := Int.eq_ofNat_of_zero_le (show 0 ≤ q by omega)
      have e : wBytes (l, false) q b = (l ++ b ++ List.replicate (q - len) 0, false) := by
        unfold wBytes
        rw [if_neg (by simp), if_pos hok, Int.toNat_natCast, hlen]
      rw [e]
      exact writer_bytes_ok g l b q a len cap w h hr (by omega) (by have := h.1; simp at this; omega)
    · have e : wBytes (l, false) q b = (l, true) := by
        unfold wBytes
        rw [if_neg (by simp), if_neg hok]
      rw [e]
      exact writer_bytes_no g l q a len cap w h hq hl (by omega)

theorem new_writer (w : World) : IsWriter (w.alloc (.cells (wCells (pad []) 0 false) 207)) w.heap.size [] false :=
  ⟨by decide, by intro x hx; simp at hx, heap_alloc_new w _⟩

/-! ### What is sealed -/
def headL (kind : Nat) (body : List Nat) : List Nat := [215, 76, kind, body.length] ++ body ++ List.replicate (120 - body.length) 0
def sealL (kind : Nat) (body : List Nat) : List Nat := headL kind body ++ low (crc (headL kind body)) 4
theorem headL_length {kind : Nat} {body : List Nat} (h : body.length ≤ 120) : (headL kind body).length = 124 := by simp [headL]; omega
theorem headL_bytes {kind : Nat} {body : List Nat} (hk : kind < 256) (hb : Bytes body) (h : body.length ≤ 120) : Bytes (headL kind body) := by
  refine (Bytes.append ?_ hb).append ?_
  · intro x hx
    simp at hx
    omega
  · intro x hx; have := List.eq_of_mem_replicate hx; omega
theorem sealL_length {kind : Nat} {body : List Nat} (h : body.length ≤ 120) : (sealL kind body).length = 128 := by simp [sealL, headL_length h, low_length]
theorem sealL_bytes {kind : Nat} {body : List Nat} (hk : kind < 256) (hb : Bytes body) (h : body.length ≤ 120) : Bytes (sealL kind body) :=
  (headL_bytes hk hb h).append (low_bytes _ _)

/-- What the writer has behind the four steps of Make. -/
def makeSt (kind : Nat) (body : List Nat) : List Nat × Bool := wBytes (wNum (wNum (wNum ([], false) 2 19671) 1 kind) 1 body.length) 120 body
theorem makeSt_ok {kind : Nat} {body : List Nat} (hk : kind < 256) (h : body.length ≤ 120) : makeSt kind body = (headL kind body, false) := by
  unfold makeSt
  have e1 : wNum ([], false) 2 19671 = ([215, 76], false) := by decide
  have e2 : wNum ([215, 76], false) 1 kind = ([215, 76, kind], false) := by
    unfold wNum
    have h1 : roomB 128 ([215, 76] : List Nat).length 1 = true := by decide
    have h2 : hasB 1 kind = true := by unfold hasB; apply decide_eq_true; exact ⟨by decide, by decide, by simpa using hk⟩
    simp only [h1, h2]
    simp [low, Nat.mod_eq_of_lt hk]
  have e3 : wNum ([215, 76, kind], false) 1 body.length = ([215, 76, kind, body.length], false) := by
    unfold wNum
    have h1 : roomB 128 ([215, 76, kind] : List Nat).length 1 = true := by
      show roomB 128 ((3 : Nat) : Int) 1 = true
      decide
    have h2 : hasB 1 body.length = true := by unfold hasB; apply decide_eq_true; exact ⟨by decide, by decide, by simp; omega⟩
    simp only [h1, h2]
    simp [low, Nat.mod_eq_of_lt (show body.length < 256 by omega)]
  rw [e1, e2, e3]
  unfold wBytes headL
  rw [if_neg (by simp), if_pos (by simp; omega)]
  simp
theorem wNum_failed (st : List Nat × Bool) (q : Int) (n : Nat) (h : st.2 = true) : (wNum st q n).2 = true := by unfold wNum; rw [h]; simp
theorem wBytes_failed (st : List Nat × Bool) (q : Int) (b : List Nat) (h : st.2 = true) : (wBytes st q b).2 = true := by unfold wBytes; rw [h]; simp
theorem makeSt_no {kind : Nat} {body : List Nat} (hk : kind < 256) (h : 120 < body.length) : (makeSt kind body).2 = true := by
  unfold makeSt
  unfold wBytes
  split
  · rfl
  · rw [if_neg (by omega)]

/-- Behind the first block that a call makes: what was there is as it was, and that block holds what it held. -/
theorem first_block {w wk : World} {cs : Array Value} {t : TypeId} (h : Below (w.heap.size + 1) (w.alloc (.cells cs t)) wk) :
    Below w.heap.size w wk ∧ wk.heap[w.heap.size]? = some (.cells cs t (0, 0)) :=
  ⟨((Below.refl _ _).alloc (Nat.le_refl _) _).trans (h.mono (by omega)), by rw [h.block _ (by omega)]; exact heap_alloc_new w _⟩

/-- The two last steps of sealing: the sum is written behind the bytes that it is of. -/
theorem put_sum (g : Nat) (l : List Nat) (hl : l.length = 124) (n : Nat) (hn : n < 4294967296) (w : World) (hg : w.heap[g]? = some (.cells (cells (pad l)) 41 (0, 0))) :
    Calls Try.prog 136 #[.slice (some ⟨g, 0, none⟩) 128 128, .int .i64 124, .int .i64 4, .int .u64 n] w fun e w' => e = .returned (.int .i64 0) ∧ w.setRow g (cells (l ++ low n 4)) = w' := by
  have hs : (cells (pad l)).size = 128 := by rw [cells_size, pad_length (by omega)]
  refine (put_yes_int g 0 128 128 _ _ 124 4 n w hg (by rw [hs]; decide) (by decide) (by decide) (by decide) (by decide) (by decide) (by omega) (by simpa using (show (n : Int) < 4294967296 by omega))).mono ?_
  rintro e w' ⟨rfl, rfl⟩
  refine ⟨rfl, ?_⟩
  congr 1
  apply Array.ext'
  have h2 : (pad l).drop 128 = [] := List.drop_of_length_le (by rw [pad_length (by omega)]; omega)
  have h1 : (pad l).take 124 = l := by unfold pad; rw [← hl]; exact List.take_left' rfl
  simp only [laid, cells, low_length, Int.toNat_natCast]
  show _ = ((pad l).map byteV).take (0 + 124) ++ _ ++ ((pad l).map byteV).drop (0 + 124 + 4)
  rw [← List.map_take, ← List.map_drop, h1, h2]
  simp

set_option maxHeartbeats 1600000 in
set_option maxRecDepth 100000 in
theorem make_ok (kind : Nat) (body : List Nat) (a : Option Addr) (len cap : Nat) (w : World) (hr : Reads w a len body) (hl : len ≤ 120) (hk : kind < 256) (hk0 : kind ≠ 0) :
    Calls Try.prog 106 #[.int .u8 kind, .slice a len cap] w fun e w' => e = .returned (.tuple #[.agg (cells (sealL kind body)), .int .i64 0]) ∧ Below w.heap.size w w' := by
  obtain rfl : len = body.length := hr.1.symm
  have hz := zero_sector
  have hzw := zero_writer
  have hst := makeSt_ok hk hl
  have HST := Lib.hid hst
  clear hst
  have B0 : Below (w.heap.size + 1) (w.alloc (.cells (cells noughts) 41)) ((w.alloc (.cells (cells noughts) 41)).alloc (.cells (wCells (pad []) 0 false) 207)) := (Below.refl _ _).alloc (by simp) _
  have hw0 : IsWriter ((w.alloc (.cells (cells noughts) 41)).alloc (.cells (wCells (pad []) 0 false) 207)) (w.heap.size + 1) [] false := by
    have := new_writer (w.alloc (.cells (cells noughts) 41))
    simpa using this
  have hkk : (kind : Int) % 18446744073709551616 = kind := by omega
  go_enter Try.func106, Try.ntmps106
  go_wp2_with fail
  refine (writer_num _ ([], false) _ 19671 _ hw0 ⟨by decide, by decide⟩ (by decide)).mono ?_
  rintro e w1 ⟨rfl, hw1, o1⟩
  have B1 := B0.trans (o1.below (B := w.heap.size + 1) (Nat.le_refl _))
  clear hw0 B0 o1
  go_wp2_with fail
  refine (writer_num _ (wNum ([], false) 2 19671) _ kind _ hw1 ⟨by decide, by decide⟩ (by omega)).mono ?_
  rintro e w2 ⟨rfl, hw2, o2⟩
  have B2 := B1.trans (o2.below (B := w.heap.size + 1) (Nat.le_refl _))
  clear hw1 B1 o2
  go_wp2_with fail
  refine (writer_num _ (wNum (wNum ([], false) 2 19671) 1 kind) _ body.length _ hw2 ⟨by decide, by decide⟩ (by omega)).mono ?_
  rintro e w3 ⟨rfl, hw3, o3⟩
  have B3 := B2.trans (o3.below (B := w.heap.size + 1) (Nat.le_refl _))
  clear hw2 B2 o3
  go_wp2_with fail
  refine (writer_bytes _ (wNum (wNum (wNum ([], false) 2 19671) 1 kind) 1 body.length) body _ _ _ _ _ hw3 (hr.below (first_block B3).1) ⟨by decide, by decide⟩ (by unfold maxLen; omega)).mono ?_
  rintro e w4 ⟨rfl, hw4, o4⟩
  have B4 := B3.trans (o4.below (B := w.heap.size + 1) (Nat.le_refl _))
  have hw4' : IsWriter w4 (w.heap.size + 1) (headL kind body) false := by
    have e : wBytes (wNum (wNum (wNum ([], false) 2 19671) 1 kind) 1 body.length) 120 body = (headL kind body, false) := HST.out
    rw [e] at hw4
    exact hw4
  clear hw3 B3 o4 hw4 HST
  go_wp2_with fail
  refine (writer_sector _ _ false _ hw4').mono ?_
  rintro e w5 ⟨rfl, b5⟩
  have hs4 : w.heap.size + 1 < w4.heap.size := (Array.getElem?_eq_some_iff.1 hw4'.2.2).1
  have B5 := B4.trans (b5.mono (by omega))
  clear B4 b5 hw4'
  have hpl : (pad (headL kind body)).length = 128 := pad_length (by rw [headL_length hl]; decide)
  have hk0' : ((kind : Int) == 0) = false := by simp; omega
  have HPL := Lib.hid hpl
  clear hpl
  go_wp2_with (refine wpList_store_sector rfl (.tmp 7) (.tmp 21) rfl w5.heap.size (pad (headL kind body)) rfl rfl HPL.out _ _ (heap_alloc_new w5 _) rfl ?_; rw [World.setRow_alloc_new])
  have hs5 : w.heap.size + 1 ≤ w5.heap.size := by have := B5.size; simpa using this
  have B6 : Below (w.heap.size + 1) (w.alloc (.cells (cells noughts) 41)) (w5.alloc (.cells (cells (pad (headL kind body))) 41)) := B5.alloc hs5 _
  have hg6 := heap_alloc_new w5 (.cells (cells (pad (headL kind body))) 41)
  generalize w5.alloc (.cells (cells (pad (headL kind body))) 41) = w6 at *
  have hcl := crc_lt (headL kind body)
  have hgl := headL_length (kind := kind) hl
  have hrd : Reads w6.drew (some ⟨w5.heap.size, 0, none⟩) 124 (headL kind body) := by
    refine ⟨hgl, headL_bytes hk hr.2.1 hl, .inr ⟨w5.heap.size, 0, rfl, (Array.getElem?_eq_some_iff.1 hg6).1, fun i hi => ?_⟩⟩
    rw [cell_of_row w6.drew _ _ _ _ _ hg6, Nat.zero_add]
    have e : (pad (headL kind body))[i]? = (headL kind body)[i]? := by unfold pad; rw [List.getElem?_append_left (by omega)]
    simp only [cells, List.getElem?_toArray, List.getElem?_map, e]
    rw [List.getElem?_eq_getElem (by omega)]
    simp [List.getD, List.getElem?_eq_getElem (show i < (headL kind body).length by omega), byteV]
  clear B5 hs4
  obtain ⟨sum, hsum⟩ : ∃ sum, crc (headL kind body) = sum := ⟨_, rfl⟩
  have hcall := crc_any _ 124 128 _ w6.drew hrd (by decide)
  rw [hsum] at hcl hcall
  have HSUM := Lib.hid hsum
  have HC := Lib.hid hcall
  clear hsum hcall
  have hsm : (sum : Int) % 18446744073709551616 = sum := by omega
  refine wp_region_still_tail 4 (by kernel_rfl) (by kernel_rfl) ?_
  simp only [List.take_succ_cons, List.take_zero, List.drop_succ_cons, List.drop_zero]
  still_step
  still_step
  still_call (HC.out.mono fun _ _ ⟨h1, h2⟩ => ⟨h1, h2.symm⟩)
  still_step
  refine wpStill_nil ?_
  change wpList _ _ _ _ _ w6.drew
  go_wp2_with fail
  refine (put_sum w5.heap.size (headL kind body) hgl sum hcl w6.drew hg6).mono ?_
  rintro e w7 ⟨rfl, hw7⟩
  have hse : headL kind body ++ low sum 4 = sealL kind body := by unfold sealL; rw [HSUM.out]
  rw [hse] at hw7
  have hsl := sealL_length (kind := kind) hl
  have hg7 : w7.heap[w5.heap.size]? = some (.cells (cells (sealL kind body)) 41 (0, 0)) := by rw [← hw7]; exact setRow_heap _ _ _ _ _ _ (show w6.drew.heap[_]? = _ from hg6)
  have B7 : Below (w.heap.size + 1) (w.alloc (.cells (cells noughts) 41)) w7 := by rw [← hw7]; exact below_setRow B6.drew hs5 _
  have hres := (first_block B7).2
  have bfin := (first_block B7).1
  have hc7 : ∀ j, j < 128 → w7.cell? ⟨w5.heap.size, 0 + j, none⟩ = some (byteV ((sealL kind body).getD j 0)) := fun j hj => by
    rw [cell_of_row w7 _ _ _ _ _ hg7, Nat.zero_add]
    simp [cells, List.getD, List.getElem?_eq_getElem (show j < (sealL kind body).length by omega)]
  have HC7 := Lib.hid hc7
  have HR := Lib.hid hres
  have HSL := Lib.hid hsl
  clear hw7 hg7 hc7 hres hsl hse hg6 hrd HC HSUM hcl hgl B6 B7
  go_wp2_with (first | (refine wpList_store_sector rfl (.tmp 4) (.tmp 35) rfl w.heap.size (sealL kind body) rfl rfl HSL.out _ _ HR.out rfl ?_) | (refine wpList_load_sector rfl (.tmp 7) rfl w5.heap.size 0 (sealL kind body) rfl HSL.out HC7.out ?_))
  exact bodyPost_ret (results_sector rfl _ _ w.heap.size (sealL kind body) _ _ rfl (setRow_heap _ _ _ _ _ _ HR.out) HSL.out) rfl ⟨rfl, below_setRow bfin (Nat.le_refl _) _⟩

set_option maxHeartbeats 1600000 in
set_option maxRecDepth 100000 in
theorem make_no (kind : Nat) (body : List Nat) (a : Option Addr) (len cap : Nat) (w : World) (hr : Reads w a len body) (hl : len ≤ maxLen) (hk : kind < 256) (hno : kind = 0 ∨ 120 < len) :
    Calls Try.prog 106 #[.int .u8 kind, .slice a len cap] w fun e w' => e = .returned (.tuple #[.agg (cells noughts), .int .i64 1]) ∧ Below w.heap.size w w' := by
  obtain rfl : len = body.length := hr.1.symm
  have hz := zero_sector
  have hzw := zero_writer
  have hm : body.length ≤ 9223372036854775807 := by unfold maxLen at hl; omega
  have hno' := Lib.hid hno
  clear hno
  have B0 : Below (w.heap.size + 1) (w.alloc (.cells (cells noughts) 41)) ((w.alloc (.cells (cells noughts) 41)).alloc (.cells (wCells (pad []) 0 false) 207)) := (Below.refl _ _).alloc (by simp) _
  have hw0 : IsWriter ((w.alloc (.cells (cells noughts) 41)).alloc (.cells (wCells (pad []) 0 false) 207)) (w.heap.size + 1) [] false := by
    have := new_writer (w.alloc (.cells (cells noughts) 41))
    simpa using this
  have hkk : (kind : Int) % 18446744073709551616 = kind := by omega
  go_enter Try.func106, Try.ntmps106
  go_wp2_with fail
  refine (writer_num _ ([], false) _ 19671 _ hw0 ⟨by decide, by decide⟩ (by decide)).mono ?_
  rintro e w1 ⟨rfl, hw1, o1⟩
  have B1 := B0.trans (o1.below (B := w.heap.size + 1) (Nat.le_refl _))
  clear hw0 B0 o1
  go_wp2_with fail
  refine (writer_num _ (wNum ([], false) 2 19671) _ kind _ hw1 ⟨by decide, by decide⟩ (by omega)).mono ?_
  rintro e w2 ⟨rfl, hw2, o2⟩
  have B2 := B1.trans (o2.below (B := w.heap.size + 1) (Nat.le_refl _))
  clear hw1 B1 o2
  go_wp2_with fail
  refine (writer_num _ (wNum (wNum ([], false) 2 19671) 1 kind) _ body.length _ hw2 ⟨by decide, by decide⟩ (by omega)).mono ?_
  rintro e w3 ⟨rfl, hw3, o3⟩
  have B3 := B2.trans (o3.below (B := w.heap.size + 1) (Nat.le_refl _))
  clear hw2 B2 o3
  go_wp2_with fail
  refine (writer_bytes _ (wNum (wNum (wNum ([], false) 2 19671) 1 kind) 1 body.length) body _ _ _ _ _ hw3 (hr.below (first_block B3).1) ⟨by decide, by decide⟩ hl).mono ?_
  rintro e w4 ⟨rfl, hw4, o4⟩
  have B4 := B3.trans (o4.below (B := w.heap.size + 1) (Nat.le_refl _))
  have hw4' : IsWriter w4 (w.heap.size + 1) (makeSt kind body).1 (makeSt kind body).2 := hw4
  clear hw3 B3 o4 hw4
  go_wp2_with fail
  refine (writer_sector _ _ _ _ hw4').mono ?_
  rintro e w5 ⟨rfl, b5⟩
  have hs4 : w.heap.size + 1 < w4.heap.size := (Array.getElem?_eq_some_iff.1 hw4'.2.2).1
  have hl4 := hw4'.1
  have B5 := B4.trans (b5.mono (by omega))
  clear B4 b5 hw4'
  have hbld := build_sector
  have hs5 : w.heap.size + 1 ≤ w5.heap.size := by have := B5.size; simpa using this
  have hf : Hid (kind ≠ 0 → (makeSt kind body).2 = true) := fun h0 => makeSt_no hk (by rcases hno'.out with h | h; exact absurd h h0; exact h)
  obtain ⟨X, hX⟩ : ∃ X, (if (makeSt kind body).2 = true then noughts else pad (makeSt kind body).1) = X := ⟨_, rfl⟩
  have hXl : X.length = 128 := by
    rw [← hX]
    split
    · rfl
    · exact pad_length hl4
  have HXL := Lib.hid hXl
  rw [hX]
  clear hX hXl hl4
  have B6 : Below (w.heap.size + 1) (w.alloc (.cells (cells noughts) 41)) (w5.alloc (.cells (cells X) 41)) := B5.alloc hs5 _
  have HR := Lib.hid (first_block B6).2
  have bfin := (first_block B6).1
  have HB := Lib.hid bfin
  clear B5 B6 bfin hs4
  by_cases hk0 : kind = 0
  · have hk0' : ((kind : Int) == 0) = true := by simp [hk0]
    clear hk0 hf
    go_wp2_with (first | (refine wpList_store_sector rfl (.tmp 7) (.tmp 21) rfl w5.heap.size X rfl rfl HXL.out _ _ (heap_alloc_new w5 _) rfl ?_; rw [World.setRow_alloc_new]) | (refine wpList_store_sector rfl (.tmp 4) (.tmp 29) rfl w.heap.size noughts rfl rfl rfl _ _ HR.out rfl ?_))
    all_goals exact bodyPost_ret (results_sector rfl _ _ w.heap.size noughts _ _ rfl (setRow_heap _ _ _ _ _ _ HR.out) rfl) rfl ⟨rfl, below_setRow HB.out (Nat.le_refl _) _⟩
  · have hk0' : ((kind : Int) == 0) = false := by simp; omega
    rw [hf.out hk0]
    clear hk0 hf
    go_wp2_with (first | (refine wpList_store_sector rfl (.tmp 7) (.tmp 21) rfl w5.heap.size X rfl rfl HXL.out _ _ (heap_alloc_new w5 _) rfl ?_; rw [World.setRow_alloc_new]) | (refine wpList_store_sector rfl (.tmp 4) (.tmp 29) rfl w.heap.size noughts rfl rfl rfl _ _ HR.out rfl ?_))
    all_goals exact bodyPost_ret (results_sector rfl _ _ w.heap.size noughts _ _ rfl (setRow_heap _ _ _ _ _ _ HR.out) rfl) rfl ⟨rfl, below_setRow HB.out (Nat.le_refl _) _⟩
end Go.Proofs.Ytgakidimipipeaa
namespace Go.Proofs.Ytgakidimipipeaa
open Go.RowKit
set_option linter.unusedVariables false
set_option maxRecDepth 100000

theorem run_size_u8 (w : World) : (sizeOf 5).run Try.prog w = .ok 1 w := by kernel_rfl
theorem run_agg_u8 (w : World) : (isAgg 5).run Try.prog w = .ok false w := by kernel_rfl
theorem run_part_byte (l : List Nat) (i : Nat) (hi : i < l.length) (w : World) : (part 5 (cells l) i).run Try.prog w = .ok (byteV (l.getD i 0)) w := by
  unfold part
  simp only [Sem.run_bind, run_agg_u8, Result.andThen_ok]
  have h : (cells l)[i]? = some (byteV (l.getD i 0)) := by simp [cells, List.getD, List.getElem?_eq_getElem hi]
  rw [if_neg (by decide), h]
  rfl
theorem run_equalIn_byte (d x y : Nat) (w : World) : (Op.equalIn (d + 1) 5 (byteV x) (byteV y)).run Try.prog w = .ok ((x : Int) == y) w := by
  simp [Op.equalIn, byteV, run_underlying Try.underlying5]

theorem run_cells_loop (d : Nat) (a b : List Nat) (ha : a.length = 128) (hb : b.length = 128) (w : World) (F : Option Bool × Unit → World → Result Bool)
    (h1 : F (none, ()) w = .ok true w) (h2 : F (some false, ()) w = .ok false w) : ∀ m k : Nat, k + m = 128 → a.take k = b.take k →
      ((forIn (m := Sem) (List.range' k m 1) ((none : Option Bool), ()) fun i __s => do
            let x ← part 5 (cells a) (i * 1)
            let y ← part 5 (cells b) (i * 1)
            let r ← Op.equalIn (d + 1) 5 x y
            if (!r) = true then pure (ForInStep.done (some false, ())) else pure (ForInStep.yield (none, ()))).run Try.prog w).andThen F = .ok (decide (a = b)) w := by
  intro m
  induction m with
  | zero =>
    intro k hk he
    rw [List.take_of_length_le (by omega), List.take_of_length_le (by omega)] at he
    subst he
    simpa using h1
  | succ m ih =>
    intro k hk he
    rw [List.range'_succ, List.forIn_cons]
    simp only [Nat.mul_one, Sem.run_bind, run_part_byte a k (by omega), run_part_byte b k (by omega), Result.andThen_ok, run_equalIn_byte]
    by_cases hx : a.getD k 0 = b.getD k 0
    · rw [hx]
      simp only [beq_self_eq_true, Bool.not_true, Bool.false_eq_true, if_false, Sem.run_pure, Result.andThen_ok]
      have := ih (k + 1) (by omega) (by rw [take_snoc_getD a k (by omega), take_snoc_getD b k (by omega), he, hx])
      simpa using this
    · have hne : (((a.getD k 0 : Nat) : Int) == ((b.getD k 0 : Nat) : Int)) = false := by simp only [beq_eq_false_iff_ne, ne_eq]; omega
      have hab : ¬ a = b := by rintro rfl; exact hx rfl
      simp only [hne, Bool.not_false, if_true, Sem.run_pure, Result.andThen_ok, hab, decide_false, h2]

theorem run_equalIn_sector (d : Nat) (a b : List Nat) (ha : a.length = 128) (hb : b.length = 128) (w : World) :
    (Op.equalIn (d + 2) 41 (.agg (cells a)) (.agg (cells b))).run Try.prog w = .ok (decide (a = b)) w := by
  unfold Op.equalIn
  simp only [Sem.run_bind, run_underlying row_sector, Result.andThen_ok, run_size_u8]
  rw [Std.Legacy.Range.forIn_eq_forIn_range']
  refine run_cells_loop d a b ha hb w _ ?_ ?_ 128 0 (by omega) (by simp)
  · simp
  · simp

/-- '==' and '!=' of two sectors. -/
theorem run_neq_sector (a b : List Nat) (ha : a.length = 128) (hb : b.length = 128) (w : World) : (binOp .neq 41 (.agg (cells a)) (.agg (cells b))).run Try.prog w = .ok (.bool (!decide (a = b))) w := by
  simp only [binOp]
  simp [Op.equal, Op.maxDepth, run_equalIn_sector 9998 a b ha hb w]
theorem run_eql_sector (a b : List Nat) (ha : a.length = 128) (hb : b.length = 128) (w : World) : (binOp .eql 41 (.agg (cells a)) (.agg (cells b))).run Try.prog w = .ok (.bool (decide (a = b))) w := by
  simp only [binOp]
  simp [Op.equal, Op.maxDepth, run_equalIn_sector 9998 a b ha hb w]
end Go.Proofs.Ytgakidimipipeaa
namespace Go.Proofs.Ytgakidimipipeaa
open Go.RowKit
set_option linter.unusedVariables false
set_option maxRecDepth 100000

theorem le_one (s : List Nat) (n : Nat) (h : n < s.length) : le ((s.drop n).take 1) = s.getD n 0 := by
  rw [List.drop_eq_getElem_cons h, List.take_succ_cons, List.take_zero]
  simp [le, List.getD, List.getElem?_eq_getElem h]

/-- What Bytes hands back of a reader that has not failed. -/
def bodyOf (s : List Nat) (n q : Nat) : List Nat := if n + q ≤ 128 then (s.drop n).take q else []
theorem reader_bytes (B g : Nat) (s : List Nat) (n q : Nat) (w : World) (h : IsReader w g s n false) (hB : B ≤ g) (hq : q < 256) :
    Calls Try.prog 140 #[.pointer (some ⟨g, 0, none⟩), .int .i64 q] w fun e w' => ∃ a cap, e = .returned (.slice a (bodyOf s n q).length cap) ∧ Reads w' a (bodyOf s n q).length (bodyOf s n q) ∧ Below B w w' ∧ (bodyOf s n q).length ≤ cap ∧ cap ≤ maxLen := by
  have hgl : g < w.heap.size := (Array.getElem?_eq_some_iff.1 h.2.2.2).1
  by_cases hok : n + q ≤ 128
  · have e : bodyOf s n q = (s.drop n).take q := if_pos hok
    rw [e]
    refine (reader_bytes_ok g s n q w h hok).mono ?_
    rintro e w' ⟨v, rfl, ho, hr, hb⟩
    obtain ⟨a, cap, rfl, hrd, hc1, hc2⟩ := ho.reads
    exact ⟨a, cap, rfl, hrd, ((Below.refl _ _).setCell (p := ⟨g, 128, none⟩) hB _).trans (hb.mono (by omega)), hc1, hc2⟩
  · have e : bodyOf s n q = [] := if_neg hok
    rw [e]
    refine (reader_bytes_no g s n q false w h ⟨by omega, by omega⟩ (.inr (.inr (by omega)))).mono ?_
    rintro e w' ⟨rfl, hr, ho⟩
    exact ⟨none, 0, rfl, ⟨rfl, by intro x hx; simp at hx, .inl rfl⟩, ho.below hB, Nat.le_refl _, by unfold maxLen; omega⟩
theorem bodyOf_length (s : List Nat) (n q : Nat) : (bodyOf s n q).length ≤ 128 := by
  unfold bodyOf
  split
  · simp; omega
  · simp

def kindL (s : List Nat) : Nat := s.getD 2 0
def bodyL (s : List Nat) : List Nat := bodyOf s 4 (s.getD 3 0)
/-- Is it just one that Make makes? -/
def openB (s : List Nat) : Bool := decide (kindL s ≠ 0 ∧ (bodyL s).length ≤ 120 ∧ sealL (kindL s) (bodyL s) = s)

theorem openB_no_make {s : List Nat} (h : kindL s = 0 ∨ 120 < (bodyL s).length) : openB s = false := by
  unfold openB
  apply decide_eq_false
  rintro ⟨h1, h2, _⟩
  rcases h with h | h
  · exact h1 h
  · omega
theorem openB_make {s : List Nat} (h : ¬ (kindL s = 0 ∨ 120 < (bodyL s).length)) : openB s = decide (sealL (kindL s) (bodyL s) = s) := by
  unfold openB
  rw [decide_eq_decide]
  exact ⟨fun h1 => h1.2.2, fun h1 => ⟨by omega, by omega, h1⟩⟩

/-- A sector, loaded by an operation that is guarded, where its guard says yes. -/
theorem wpList_load_sector_want {ops : Array Oper} {rest : List Oper} {o : Oper} {a : Act} {w : World} {Q : Exit → Act → World → Prop} (hw : Region.wanted o (yielded ops a.tmps) = true) (x : Operand) (ho : o.op = .load 41 x)
    (g off : Nat) (l : List Nat) (hx : a.eval x = .pointer (some ⟨g, off, none⟩)) (hl : l.length = 128) (hc : ∀ j, j < 128 → w.cell? ⟨g, off + j, none⟩ = some (byteV (l.getD j 0)))
    (h : wpList Try.prog ops Q rest (a.put o.dst (.agg (cells l))) w) : wpList Try.prog ops Q (o :: rest) a w :=
  BigFrame.wpList_want hw fun _ hK => wp_load_mid 41 x ho g off hx (l.map byteV) _ (fun j v hv => by
    simp only [List.getElem?_map, Option.map_eq_some_iff] at hv
    obtain ⟨y, hy, rfl⟩ := hv
    have hj : j < 128 := by rw [← hl]; exact (List.getElem?_eq_some_iff.1 hy).1
    rw [hc j hj]
    simp [List.getD, hy]) row_sector rfl (by rw [size_sector, List.length_map, hl]) (hK _ _ h)

def OpenPost2 (s : List Nat) (w : World) (e : Ending) (w' : World) : Prop :=
  Below w.heap.size w w' ∧ ((openB s = true ∧ ∃ a cap, e = .returned (.tuple #[.int .u8 (kindL s : Nat), .slice a (bodyL s).length cap, .int .i64 0]) ∧ Reads w' a (bodyL s).length (bodyL s) ∧ (bodyL s).length ≤ cap ∧ cap ≤ maxLen) ∨
    (openB s = false ∧ e = .returned (.tuple #[.int .u8 0, .slice none 0 0, .int .i64 21])))
def OpenPost (s : List Nat) (w : World) (e : Ending) (w' : World) : Prop :=
  Below w.heap.size w w' ∧ ((openB s = true ∧ ∃ a cap, e = .returned (.tuple #[.int .u8 (kindL s : Nat), .slice a (bodyL s).length cap, .int .i64 0]) ∧ Reads w' a (bodyL s).length (bodyL s)) ∨
    (openB s = false ∧ e = .returned (.tuple #[.int .u8 0, .slice none 0 0, .int .i64 21])))

theorem box_cells {w wk : World} {s : List Nat} (hs : s.length = 128) (h : wk.heap[w.heap.size]? = some (.cells (cells s) 41 (0, 0))) : ∀ j, j < 128 → wk.cell? ⟨w.heap.size, 0 + j, none⟩ = some (byteV (s.getD j 0)) := fun j hj => by
  rw [cell_of_row _ _ _ _ _ _ h, Nat.zero_add]
  simp [cells, List.getD, List.getElem?_eq_getElem (show j < s.length by omega)]

set_option maxHeartbeats 1600000 in
set_option maxRecDepth 100000 in
theorem open_any2 (s : List Nat) (hs : s.length = 128) (hb : Bytes s) (w : World) :
    Calls Try.prog 114 #[.agg (cells s)] w fun e w' => OpenPost2 s w e w' := by
  have hz := zero_sector
  have Hc := Lib.hid (box_cells hs (heap_alloc_new w (.cells (cells s) 41)))
  go_enter Try.func114, Try.ntmps114
  go_wp2_with (first | (refine wpList_load_sector rfl (.tmp 1) rfl w.heap.size 0 s rfl hs Hc.out ?_) | (go_at_call 138; refine (read_any s hs hb _).mono ?_; rintro e w1 ⟨rfl, hr1, b1⟩))
  have e0 : (w.alloc (.cells (cells s) 41)).heap.size = w.heap.size + 1 := by simp
  rw [e0] at hr1 b1
  have hgr : w.heap.size + 1 ≤ w.heap.size + 1 + 1 := by omega
  refine (reader_num_ok _ s 0 2 _ hr1 (by decide) (by decide) (by decide)).mono ?_
  rintro e w2 ⟨rfl, hr2, o2⟩
  have b2 := b1.trans (o2.below (B := w.heap.size + 1) hgr)
  clear hr1 b1 o2 Hc
  go_wp2_with fail
  refine (reader_num_ok _ s _ 1 _ hr2 (by decide) (by decide) (by decide)).mono ?_
  rintro e w3 ⟨rfl, hr3, o3⟩
  rw [le_one s (0 + 2) (by omega)]
  obtain ⟨kd, hkd⟩ : ∃ kd, kd = s.getD (0 + 2) 0 := ⟨_, rfl⟩
  rw [← hkd]
  have hk : kd < 256 := by rw [hkd]; exact hb.getD _
  have HK : Hid (kindL s = kd) := hkd.symm
  have hk1 : (kd : Int) % 256 = kd := by omega
  clear hkd
  have b3 := b2.trans (o3.below (B := w.heap.size + 1) hgr)
  clear hr2 b2 o3
  go_wp2_with fail
  refine (reader_num_ok _ s _ 1 _ hr3 (by decide) (by decide) (by decide)).mono ?_
  rintro e w4 ⟨rfl, hr4, o4⟩
  rw [le_one s (0 + 2 + 1) (by omega)]
  obtain ⟨nn, hnn⟩ : ∃ nn, nn = s.getD (0 + 2 + 1) 0 := ⟨_, rfl⟩
  rw [← hnn]
  have hn : nn < 256 := by rw [hnn]; exact hb.getD _
  have HN : Hid (bodyOf s 4 nn = bodyL s) := by show _ = _; rw [hnn]; rfl
  clear hnn
  have b4 := b3.trans (o4.below (B := w.heap.size + 1) hgr)
  clear hr3 b3 o4
  go_wp2_with fail
  refine (reader_bytes (w.heap.size + 1) _ s _ nn _ hr4 hgr hn).mono ?_
  rintro e w5 ⟨a5, cap5, rfl, hrd5, b5', hcb5⟩
  have b5 := b4.trans b5'
  rw [show (0 + 2 + 1 + 1) = 4 from rfl, HN.out] at hrd5 hcb5 ⊢
  have HCB := Lib.hid hcb5
  clear hcb5
  have hbl : (bodyL s).length ≤ 128 := bodyOf_length _ _ _
  clear hr4 b4 b5' HN
  by_cases hmk : kd = 0 ∨ 120 < (bodyL s).length
  · go_wp2_with fail
    refine (make_no kd (bodyL s) _ _ _ _ hrd5 (by unfold maxLen; omega) hk hmk).mono ?_
    rintro e w6 ⟨rfl, b6'⟩
    have hs5 : w.heap.size + 1 ≤ w5.heap.size := by have := b5.size; omega
    have b6 := b5.trans (b6'.mono hs5)
    have hs6 : w.heap.size + 1 ≤ w6.heap.size := by have := b6.size; omega
    have b7 := (first_block b6).1.alloc (by omega) (.cells (cells noughts) 41)
    have hfin : openB s = false := openB_no_make (by rw [HK.out]; exact hmk)
    clear hrd5 b5 b6' b6 hmk
    go_wp2_with (refine wpList_store_sector rfl (.tmp 8) (.tmp 26) rfl w6.heap.size noughts rfl rfl rfl _ _ (heap_alloc_new w6 _) rfl ?_; rw [World.setRow_alloc_new])
    go_ret3
    exact ⟨b7, .inr ⟨hfin, rfl⟩⟩
  · have hok := openB_make (s := s) (by rw [HK.out]; exact hmk)
    rw [HK.out] at hok
    go_wp2_with fail
    refine (make_ok kd (bodyL s) _ _ _ _ hrd5 (by omega) hk (by omega)).mono ?_
    rintro e w6 ⟨rfl, b6'⟩
    have hs5 : w.heap.size + 1 ≤ w5.heap.size := by have := b5.size; omega
    have b6 := b5.trans (b6'.mono hs5)
    have hs6 : w.heap.size + 1 ≤ w6.heap.size := by have := b6.size; omega
    have hlen := sealL_length (kind := kd) (body := bodyL s) (by omega)
    have hrd6 := (hrd5.below b6').alloc (.cells (cells (sealL kd (bodyL s))) 41)
    have hneq := run_neq_sector (sealL kd (bodyL s)) s hlen hs
    have hbx := (first_block (b6.alloc hs6 (.cells (cells (sealL kd (bodyL s))) 41))).2
    have H1 := Lib.hid (box_cells hs hbx)
    have H2 := Lib.hid (box_cells hlen (heap_alloc_new w6 (.cells (cells (sealL kd (bodyL s))) 41)))
    have b7 := (first_block b6).1.alloc (show w.heap.size ≤ w6.heap.size by omega) (.cells (cells (sealL kd (bodyL s))) 41)
    have HL := Lib.hid hlen
    clear hrd5 b5 b6' b6 hbx hlen hmk
    by_cases hE : sealL kd (bodyL s) = s
    · have hfin : openB s = true := by rw [hok]; exact decide_eq_true hE
      have hD : decide (sealL kd (bodyL s) = s) = true := decide_eq_true hE
      simp only [hD, Bool.not_true] at hneq
      clear hok hE hD
      go_wp2_with (first | (refine wpList_store_sector rfl (.tmp 8) (.tmp 26) rfl w6.heap.size _ rfl rfl HL.out _ _ (heap_alloc_new w6 _) rfl ?_; rw [World.setRow_alloc_new]) | (refine wpList_load_sector_want rfl (.tmp 8) rfl w6.heap.size 0 (sealL kd (bodyL s)) rfl HL.out H2.out ?_) | (refine wpList_load_sector_want rfl (.tmp 1) rfl w.heap.size 0 s rfl hs H1.out ?_))
      go_ret3
      exact ⟨b7, .inl ⟨hfin, _, _, by rw [HK.out]; rfl, hrd6, HCB.out⟩⟩
    · have hfin : openB s = false := by rw [hok]; exact decide_eq_false hE
      have hD : decide (sealL kd (bodyL s) = s) = false := decide_eq_false hE
      simp only [hD, Bool.not_false] at hneq
      clear hok hE hD
      go_wp2_with (first | (refine wpList_store_sector rfl (.tmp 8) (.tmp 26) rfl w6.heap.size _ rfl rfl HL.out _ _ (heap_alloc_new w6 _) rfl ?_; rw [World.setRow_alloc_new]) | (refine wpList_load_sector_want rfl (.tmp 8) rfl w6.heap.size 0 (sealL kd (bodyL s)) rfl HL.out H2.out ?_) | (refine wpList_load_sector_want rfl (.tmp 1) rfl w.heap.size 0 s rfl hs H1.out ?_))
      go_ret3
      exact ⟨b7, .inr ⟨hfin, rfl⟩⟩
theorem open_any (s : List Nat) (hs : s.length = 128) (hb : Bytes s) (w : World) :
    Calls Try.prog 114 #[.agg (cells s)] w fun e w' => OpenPost s w e w' := by
  refine (open_any2 s hs hb w).mono ?_
  rintro e w' ⟨b, ⟨h1, a, cap, h2, h3, _⟩ | h⟩
  · exact ⟨b, .inl ⟨h1, a, cap, h2, h3⟩⟩
  · exact ⟨b, .inr h⟩
end Go.Proofs.Ytgakidimipipeaa
