/- Sealing, by its walks. -/
import Derived.Test.YtedhfgadphjobaaReader
import Derived.Test.YtedhfgadphjobaaCrc
import Derived.Deep.DeepCutAuto
import Derived.Deep.WholeRow
namespace Go.Proofs.Ytedhfgadphjobaa
open Go.RowKit
set_option linter.unusedVariables false
set_option maxRecDepth 100000

/-! ### The writer's steps, in one form -/
def wNum (st : List Nat × Bool) (q : Int) (n : Nat) : List Nat × Bool :=
  if st.2 then (st.1, true) else if roomB 128 st.1.length q && hasB q n then (st.1 ++ low n q.toNat, false) else (st.1, true)
def wBytes (st : List Nat × Bool) (q : Int) (b : List Nat) : List Nat × Bool :=
  if st.2 then (st.1, true) else if (b.length : Int) ≤ q ∧ q ≤ 128 - (st.1.length : Int) then (st.1 ++ b ++ List.replicate (q.toNat - b.length) 0, false) else (st.1, true)

theorem writer_num (g : Nat) (st : List Nat × Bool) (q : Int) (n : Nat) (w : World) (h : IsWriter w g st.1 st.2) (hq : I64 q) (hn : n < 18446744073709551616) :
    Calls Try.prog 104 #[.pointer (some ⟨g, 0, none⟩), .int .i64 q, .int .u64 n] w fun e w' => e = .returned (.tuple #[]) ∧ IsWriter w' g (wNum st q n).1 (wNum st q n).2 ∧ Only g w w' := by
  obtain ⟨l, f⟩ := st
  cases f with
  | true => exact writer_num_failed g l q n w h
  | false =>
    by_cases hok : roomB 128 l.length q = true ∧ hasB q n = true
    · obtain ⟨k1, k2, k3, k4⟩ := roomB_yes hok.1
      obtain ⟨q, rfl⟩ := Int.eq_ofNat_of_zero_le (show 0 ≤ q by omega)
      have h3 := of_decide_eq_true hok.2
      rw [Int.toNat_natCast] at h3
      have e : wNum (l, false) q n = (l ++ low n q, false) := by simp [wNum, hok.1, hok.2]
      rw [e]
      exact writer_num_ok g l q n w h (by omega) (by omega) (by omega) h3.2.2
    · have e : wNum (l, false) q n = (l, true) := by
        unfold wNum
        rw [if_neg (by simp), if_neg (by simpa using hok)]
      rw [e]
      refine writer_num_no g l q n w h hq hn ?_
      by_cases h1 : roomB 128 l.length q = true
      · exact .inr (by simpa [h1] using hok)
      · exact .inl (by simpa using h1)

theorem writer_bytes (g : Nat) (st : List Nat × Bool) (b : List Nat) (q : Int) (a : Option Addr) (len cap : Nat) (w : World) (h : IsWriter w g st.1 st.2) (hr : Reads w a len b) (hq : I64 q) (hl : len ≤ maxLen) :
    Calls Try.prog 105 #[.pointer (some ⟨g, 0, none⟩), .int .i64 q, .slice a len cap] w fun e w' => e = .returned (.tuple #[]) ∧ IsWriter w' g (wBytes st q b).1 (wBytes st q b).2 ∧ Only g w w' := by
  obtain ⟨l, f⟩ := st
  cases f with
  | true => exact writer_bytes_failed g l q a len cap w h
  | false =>
    have hlen := hr.1
    by_cases hok : (b.length : Int) ≤ q ∧ q ≤ 128 - (l.length : Int)
    · obtain ⟨q, rfl⟩ := Int.eq_ofNat_of_zero_le (show 0 ≤ q by omega)
      have e : wBytes (l, false) q b = (l ++ b ++ List.replicate (q - len) 0, false) := by
        unfold wBytes
        rw [if_neg (by simp), if_pos hok, Int.toNat_natCast, hlen]
      rw [e]
      exact writer_bytes_ok g l b q a len cap w h hr (by omega) (by have := h.1; simp at this; omega)
    · have e : wBytes (l, false) q b = (l, true) := by
        unfold wBytes
        rw [if_neg (by simp), if_neg hok]
      rw [e]
      exact writer_bytes_no g l q a len cap w h hq hl (by omega)

theorem new_writer (w : World) : IsWriter (w.alloc (.cells (wCells (pad []) 0 false) 164)) w.heap.size [] false :=
  ⟨by decide, by intro x hx; simp at hx, heap_alloc_new w _⟩

/-! ### What is sealed -/
def headL (kind : Nat) (body : List Nat) : List Nat := [215, 76, kind, body.length] ++ body ++ List.replicate (120 - body.length) 0
def sealL (kind : Nat) (body : List Nat) : List Nat := headL kind body ++ low (crc (headL kind body)) 4
theorem headL_length {kind : Nat} {body : List Nat} (h : body.length ≤ 120) : (headL kind body).length = 124 := by simp [headL]; omega
theorem headL_bytes {kind : Nat} {body : List Nat} (hk : kind < 256) (hb : Bytes body) (h : body.length ≤ 120) : Bytes (headL kind body) := by
  refine (Bytes.append ?_ hb).append ?_
  · intro x hx
    simp at hx
    omega
  · intro x hx; have := List.eq_of_mem_replicate hx; omega
theorem sealL_length {kind : Nat} {body : List Nat} (h : body.length ≤ 120) : (sealL kind body).length = 128 := by simp [sealL, headL_length h, low_length]
theorem sealL_bytes {kind : Nat} {body : List Nat} (hk : kind < 256) (hb : Bytes body) (h : body.length ≤ 120) : Bytes (sealL kind body) :=
  (headL_bytes hk hb h).append (low_bytes _ _)

/-- What the writer has behind the four steps of Make. -/
def makeSt (kind : Nat) (body : List Nat) : List Nat × Bool := wBytes (wNum (wNum (wNum ([], false) 2 19671) 1 kind) 1 body.length) 120 body
theorem makeSt_ok {kind : Nat} {body : List Nat} (hk : kind < 256) (h : body.length ≤ 120) : makeSt kind body = (headL kind body, false) := by
  unfold makeSt
  have e1 : wNum ([], false) 2 19671 = ([215, 76], false) := by decide
  have e2 : wNum ([215, 76], false) 1 kind = ([215, 76, kind], false) := by
    unfold wNum
    have h1 : roomB 128 ([215, 76] : List Nat).length 1 = true := by decide
    have h2 : hasB 1 kind = true := by unfold hasB; apply decide_eq_true; exact ⟨by decide, by decide, by simpa using hk⟩
    simp only [h1, h2]
    simp [low, Nat.mod_eq_of_lt hk]
  have e3 : wNum ([215, 76, kind], false) 1 body.length = ([215, 76, kind, body.length], false) := by
    unfold wNum
    have h1 : roomB 128 ([215, 76, kind] : List Nat).length 1 = true := by
      show roomB 128 ((3 : Nat) : Int) 1 = true
      decide
    have h2 : hasB 1 body.length = true := by unfold hasB; apply decide_eq_true; exact ⟨by decide, by decide, by simp; omega⟩
    simp only [h1, h2]
    simp [low, Nat.mod_eq_of_lt (show body.length < 256 by omega)]
  rw [e1, e2, e3]
  unfold wBytes headL
  rw [if_neg (by simp), if_pos (by simp; omega)]
  simp
theorem wNum_failed (st : List Nat × Bool) (q : Int) (n : Nat) (h : st.2 = true) : (wNum st q n).2 = true := by unfold wNum; rw [h]; simp
theorem wBytes_failed (st : List Nat × Bool) (q : Int) (b : List Nat) (h : st.2 = true) : (wBytes st q b).2 = true := by unfold wBytes; rw [h]; simp
theorem makeSt_no {kind : Nat} {body : List Nat} (hk : kind < 256) (h : 120 < body.length) : (makeSt kind body).2 = true := by
  unfold makeSt
  unfold wBytes
  split
  · rfl
  · rw [if_neg (by omega)]

/-- Behind the first block that a call makes: what was there is as it was, and that block holds what it held. -/
theorem first_block {w wk : World} {cs : Array Value} {t : TypeId} (h : Below (w.heap.size + 1) (w.alloc (.cells cs t)) wk) :
    Below w.heap.size w wk ∧ wk.heap[w.heap.size]? = some (.cells cs t (0, 0)) :=
  ⟨((Below.refl _ _).alloc (Nat.le_refl _) _).trans (h.mono (by omega)), by rw [h.block _ (by omega)]; exact heap_alloc_new w _⟩

/-- The two last steps of sealing: the sum is written behind the bytes that it is of. -/
theorem put_sum (g : Nat) (l : List Nat) (hl : l.length = 124) (n : Nat) (hn : n < 4294967296) (w : World) (hg : w.heap[g]? = some (.cells (cells (pad l)) 46 (0, 0))) :
    Calls Try.prog 71 #[.slice (some ⟨g, 0, none⟩) 128 128, .int .i64 124, .int .i64 4, .int .u64 n] w fun e w' => e = .returned (.int .i64 0) ∧ w.setRow g (cells (l ++ low n 4)) = w' := by
  have hs : (cells (pad l)).size = 128 := by rw [cells_size, pad_length (by omega)]
  refine (put_yes_int g 0 128 128 _ _ 124 4 n w hg (by rw [hs]; decide) (by decide) (by decide) (by decide) (by decide) (by decide) (by omega) (by simpa using (show (n : Int) < 4294967296 by omega))).mono ?_
  rintro e w' ⟨rfl, rfl⟩
  refine ⟨rfl, ?_⟩
  congr 1
  apply Array.ext'
  have h2 : (pad l).drop 128 = [] := List.drop_of_length_le (by rw [pad_length (by omega)]; omega)
  have h1 : (pad l).take 124 = l := by unfold pad; rw [← hl]; exact List.take_left' rfl
  simp only [laid, cells, low_length, Int.toNat_natCast]
  show _ = ((pad l).map byteV).take (0 + 124) ++ _ ++ ((pad l).map byteV).drop (0 + 124 + 4)
  rw [← List.map_take, ← List.map_drop, h1, h2]
  simp

set_option maxHeartbeats 1600000 in
set_option maxRecDepth 100000 in
theorem make_ok (kind : Nat) (body : List Nat) (a : Option Addr) (len cap : Nat) (w : World) (hr : Reads w a len body) (hl : len ≤ 120) (hk : kind < 256) (hk0 : kind ≠ 0) :
    Calls Try.prog 72 #[.int .u8 kind, .slice a len cap] w fun e w' => e = .returned (.tuple #[.agg (cells (sealL kind body)), .int .i64 0]) ∧ Below w.heap.size w w' := by
  obtain rfl : len = body.length := hr.1.symm
  have hz := zero_sector
  have hzw := zero_writer
  have hst := makeSt_ok hk hl
  have HST := Lib.hid hst
  clear hst
  have B0 : Below (w.heap.size + 1) (w.alloc (.cells (cells noughts) 46)) ((w.alloc (.cells (cells noughts) 46)).alloc (.cells (wCells (pad []) 0 false) 164)) := (Below.refl _ _).alloc (by simp) _
  have hw0 : IsWriter ((w.alloc (.cells (cells noughts) 46)).alloc (.cells (wCells (pad []) 0 false) 164)) (w.heap.size + 1) [] false := by
    have := new_writer (w.alloc (.cells (cells noughts) 46))
    simpa using this
  have hkk : (kind : Int) % 18446744073709551616 = kind := by omega
  go_enter Try.func72, Try.ntmps72
  go_wp2_with fail
  refine (writer_num _ ([], false) _ 19671 _ hw0 ⟨by decide, by decide⟩ (by decide)).mono ?_
  rintro e w1 ⟨rfl, hw1, o1⟩
  have B1 := B0.trans (o1.below (B := w.heap.size + 1) (Nat.le_refl _))
  clear hw0 B0 o1
  go_wp2_with fail
  refine (writer_num _ (wNum ([], false) 2 19671) _ kind _ hw1 ⟨by decide, by decide⟩ (by omega)).mono ?_
  rintro e w2 ⟨rfl, hw2, o2⟩
  have B2 := B1.trans (o2.below (B := w.heap.size + 1) (Nat.le_refl _))
  clear hw1 B1 o2
  go_wp2_with fail
  refine (writer_num _ (wNum (wNum ([], false) 2 19671) 1 kind) _ body.length _ hw2 ⟨by decide, by decide⟩ (by omega)).mono ?_
  rintro e w3 ⟨rfl, hw3, o3⟩
  have B3 := B2.trans (o3.below (B := w.heap.size + 1) (Nat.le_refl _))
  clear hw2 B2 o3
  go_wp2_with fail
  refine (writer_bytes _ (wNum (wNum (wNum ([], false) 2 19671) 1 kind) 1 body.length) body _ _ _ _ _ hw3 (hr.below (first_block B3).1) ⟨by decide, by decide⟩ (by unfold maxLen; omega)).mono ?_
  rintro e w4 ⟨rfl, hw4, o4⟩
  have B4 := B3.trans (o4.below (B := w.heap.size + 1) (Nat.le_refl _))
  have hw4' : IsWriter w4 (w.heap.size + 1) (headL kind body) false := by
    have e : wBytes (wNum (wNum (wNum ([], false) 2 19671) 1 kind) 1 body.length) 120 body = (headL kind body, false) := HST.out
    rw [e] at hw4
    exact hw4
  clear hw3 B3 o4 hw4 HST
  go_wp2_with fail
  refine (writer_sector _ _ false _ hw4').mono ?_
  rintro e w5 ⟨rfl, b5⟩
  have hs4 : w.heap.size + 1 < w4.heap.size := (Array.getElem?_eq_some_iff.1 hw4'.2.2).1
  have B5 := B4.trans (b5.mono (by omega))
  clear B4 b5 hw4'
  have hpl : (pad (headL kind body)).length = 128 := pad_length (by rw [headL_length hl]; decide)
  have hk0' : ((kind : Int) == 0) = false := by simp; omega
  have HPL := Lib.hid hpl
  clear hpl
  go_wp2_with (refine wpList_store_sector rfl (.tmp 7) (.tmp 21) rfl w5.heap.size (pad (headL kind body)) rfl rfl HPL.out _ _ (heap_alloc_new w5 _) rfl ?_; rw [World.setRow_alloc_new])
  have hs5 : w.heap.size + 1 ≤ w5.heap.size := by have := B5.size; simpa using this
  have B6 : Below (w.heap.size + 1) (w.alloc (.cells (cells noughts) 46)) (w5.alloc (.cells (cells (pad (headL kind body))) 46)) := B5.alloc hs5 _
  have hg6 := heap_alloc_new w5 (.cells (cells (pad (headL kind body))) 46)
  generalize w5.alloc (.cells (cells (pad (headL kind body))) 46) = w6 at *
  have hcl := crc_lt (headL kind body)
  have hgl := headL_length (kind := kind) hl
  have hrd : Reads w6.drew (some ⟨w5.heap.size, 0, none⟩) 124 (headL kind body) := by
    refine ⟨hgl, headL_bytes hk hr.2.1 hl, .inr ⟨w5.heap.size, 0, rfl, (Array.getElem?_eq_some_iff.1 hg6).1, fun i hi => ?_⟩⟩
    rw [cell_of_row w6.drew _ _ _ _ _ hg6, Nat.zero_add]
    have e : (pad (headL kind body))[i]? = (headL kind body)[i]? := by unfold pad; rw [List.getElem?_append_left (by omega)]
    simp only [cells, List.getElem?_toArray, List.getElem?_map, e]
    rw [List.getElem?_eq_getElem (by omega)]
    simp [List.getD, List.getElem?_eq_getElem (show i < (headL kind body).length by omega), byteV]
  clear B5 hs4
  obtain ⟨sum, hsum⟩ : ∃ sum, crc (headL kind body) = sum := ⟨_, rfl⟩
  have hcall := crc_any _ 124 128 _ w6.drew hrd (by decide)
  rw [hsum] at hcl hcall
  have HSUM := Lib.hid hsum
  have HC := Lib.hid hcall
  clear hsum hcall
  have hsm : (sum : Int) % 18446744073709551616 = sum := by omega
  refine wp_region_still_tail 4 (by kernel_rfl) (by kernel_rfl) ?_
  simp only [List.take_succ_cons, List.take_zero, List.drop_succ_cons, List.drop_zero]
  still_step
  still_step
  still_call (HC.out.mono fun _ _ ⟨h1, h2⟩ => ⟨h1, h2.symm⟩)
  still_step
  refine wpStill_nil ?_
  change wpList _ _ _ _ _ w6.drew
  go_wp2_with fail
  refine (put_sum w5.heap.size (headL kind body) hgl sum hcl w6.drew hg6).mono ?_
  rintro e w7 ⟨rfl, hw7⟩
  have hse : headL kind body ++ low sum 4 = sealL kind body := by unfold sealL; rw [HSUM.out]
  rw [hse] at hw7
  have hsl := sealL_length (kind := kind) hl
  have hg7 : w7.heap[w5.heap.size]? = some (.cells (cells (sealL kind body)) 46 (0, 0)) := by rw [← hw7]; exact setRow_heap _ _ _ _ _ _ (show w6.drew.heap[_]? = _ from hg6)
  have B7 : Below (w.heap.size + 1) (w.alloc (.cells (cells noughts) 46)) w7 := by rw [← hw7]; exact below_setRow B6.drew hs5 _
  have hres := (first_block B7).2
  have bfin := (first_block B7).1
  have hc7 : ∀ j, j < 128 → w7.cell? ⟨w5.heap.size, 0 + j, none⟩ = some (byteV ((sealL kind body).getD j 0)) := fun j hj => by
    rw [cell_of_row w7 _ _ _ _ _ hg7, Nat.zero_add]
    simp [cells, List.getD, List.getElem?_eq_getElem (show j < (sealL kind body).length by omega)]
  have HC7 := Lib.hid hc7
  have HR := Lib.hid hres
  have HSL := Lib.hid hsl
  clear hw7 hg7 hc7 hres hsl hse hg6 hrd HC HSUM hcl hgl B6 B7
  go_wp2_with (first | (refine wpList_store_sector rfl (.tmp 4) (.tmp 35) rfl w.heap.size (sealL kind body) rfl rfl HSL.out _ _ HR.out rfl ?_) | (refine wpList_load_sector rfl (.tmp 7) rfl w5.heap.size 0 (sealL kind body) rfl HSL.out HC7.out ?_))
  exact bodyPost_ret (results_sector rfl _ _ w.heap.size (sealL kind body) _ _ rfl (setRow_heap _ _ _ _ _ _ HR.out) HSL.out) rfl ⟨rfl, below_setRow bfin (Nat.le_refl _) _⟩

set_option maxHeartbeats 1600000 in
set_option maxRecDepth 100000 in
theorem make_no (kind : Nat) (body : List Nat) (a : Option Addr) (len cap : Nat) (w : World) (hr : Reads w a len body) (hl : len ≤ maxLen) (hk : kind < 256) (hno : kind = 0 ∨ 120 < len) :
    Calls Try.prog 72 #[.int .u8 kind, .slice a len cap] w fun e w' => e = .returned (.tuple #[.agg (cells noughts), .int .i64 1]) ∧ Below w.heap.size w w' := by
  obtain rfl : len = body.length := hr.1.symm
  have hz := zero_sector
  have hzw := zero_writer
  have hm : body.length ≤ 9223372036854775807 := by unfold maxLen at hl; omega
  have hno' := Lib.hid hno
  clear hno
  have B0 : Below (w.heap.size + 1) (w.alloc (.cells (cells noughts) 46)) ((w.alloc (.cells (cells noughts) 46)).alloc (.cells (wCells (pad []) 0 false) 164)) := (Below.refl _ _).alloc (by simp) _
  have hw0 : IsWriter ((w.alloc (.cells (cells noughts) 46)).alloc (.cells (wCells (pad []) 0 false) 164)) (w.heap.size + 1) [] false := by
    have := new_writer (w.alloc (.cells (cells noughts) 46))
    simpa using this
  have hkk : (kind : Int) % 18446744073709551616 = kind := by omega
  go_enter Try.func72, Try.ntmps72
  go_wp2_with fail
  refine (writer_num _ ([], false) _ 19671 _ hw0 ⟨by decide, by decide⟩ (by decide)).mono ?_
  rintro e w1 ⟨rfl, hw1, o1⟩
  have B1 := B0.trans (o1.below (B := w.heap.size + 1) (Nat.le_refl _))
  clear hw0 B0 o1
  go_wp2_with fail
  refine (writer_num _ (wNum ([], false) 2 19671) _ kind _ hw1 ⟨by decide, by decide⟩ (by omega)).mono ?_
  rintro e w2 ⟨rfl, hw2, o2⟩
  have B2 := B1.trans (o2.below (B := w.heap.size + 1) (Nat.le_refl _))
  clear hw1 B1 o2
  go_wp2_with fail
  refine (writer_num _ (wNum (wNum ([], false) 2 19671) 1 kind) _ body.length _ hw2 ⟨by decide, by decide⟩ (by omega)).mono ?_
  rintro e w3 ⟨rfl, hw3, o3⟩
  have B3 := B2.trans (o3.below (B := w.heap.size + 1) (Nat.le_refl _))
  clear hw2 B2 o3
  go_wp2_with fail
  refine (writer_bytes _ (wNum (wNum (wNum ([], false) 2 19671) 1 kind) 1 body.length) body _ _ _ _ _ hw3 (hr.below (first_block B3).1) ⟨by decide, by decide⟩ hl).mono ?_
  rintro e w4 ⟨rfl, hw4, o4⟩
  have B4 := B3.trans (o4.below (B := w.heap.size + 1) (Nat.le_refl _))
  have hw4' : IsWriter w4 (w.heap.size + 1) (makeSt kind body).1 (makeSt kind body).2 := hw4
  clear hw3 B3 o4 hw4
  go_wp2_with fail
  refine (writer_sector _ _ _ _ hw4').mono ?_
  rintro e w5 ⟨rfl, b5⟩
  have hs4 : w.heap.size + 1 < w4.heap.size := (Array.getElem?_eq_some_iff.1 hw4'.2.2).1
  have hl4 := hw4'.1
  have B5 := B4.trans (b5.mono (by omega))
  clear B4 b5 hw4'
  have hbld := build_sector
  have hs5 : w.heap.size + 1 ≤ w5.heap.size := by have := B5.size; simpa using this
  have hf : Hid (kind ≠ 0 → (makeSt kind body).2 = true) := fun h0 => makeSt_no hk (by rcases hno'.out with h | h; exact absurd h h0; exact h)
  obtain ⟨X, hX⟩ : ∃ X, (if (makeSt kind body).2 = true then noughts else pad (makeSt kind body).1) = X := ⟨_, rfl⟩
  have hXl : X.length = 128 := by
    rw [← hX]
    split
    · rfl
    · exact pad_length hl4
  have HXL := Lib.hid hXl
  rw [hX]
  clear hX hXl hl4
  have B6 : Below (w.heap.size + 1) (w.alloc (.cells (cells noughts) 46)) (w5.alloc (.cells (cells X) 46)) := B5.alloc hs5 _
  have HR := Lib.hid (first_block B6).2
  have bfin := (first_block B6).1
  have HB := Lib.hid bfin
  clear B5 B6 bfin hs4
  by_cases hk0 : kind = 0
  · have hk0' : ((kind : Int) == 0) = true := by simp [hk0]
    clear hk0 hf
    go_wp2_with (first | (refine wpList_store_sector rfl (.tmp 7) (.tmp 21) rfl w5.heap.size X rfl rfl HXL.out _ _ (heap_alloc_new w5 _) rfl ?_; rw [World.setRow_alloc_new]) | (refine wpList_store_sector rfl (.tmp 4) (.tmp 29) rfl w.heap.size noughts rfl rfl rfl _ _ HR.out rfl ?_))
    all_goals exact bodyPost_ret (results_sector rfl _ _ w.heap.size noughts _ _ rfl (setRow_heap _ _ _ _ _ _ HR.out) rfl) rfl ⟨rfl, below_setRow HB.out (Nat.le_refl _) _⟩
  · have hk0' : ((kind : Int) == 0) = false := by simp; omega
    rw [hf.out hk0]
    clear hk0 hf
    go_wp2_with (first | (refine wpList_store_sector rfl (.tmp 7) (.tmp 21) rfl w5.heap.size X rfl rfl HXL.out _ _ (heap_alloc_new w5 _) rfl ?_; rw [World.setRow_alloc_new]) | (refine wpList_store_sector rfl (.tmp 4) (.tmp 29) rfl w.heap.size noughts rfl rfl rfl _ _ HR.out rfl ?_))
    all_goals exact bodyPost_ret (results_sector rfl _ _ w.heap.size noughts _ _ rfl (setRow_heap _ _ _ _ _ _ HR.out) rfl) rfl ⟨rfl, below_setRow HB.out (Nat.le_refl _) _⟩
end Go.Proofs.Ytedhfgadphjobaa
