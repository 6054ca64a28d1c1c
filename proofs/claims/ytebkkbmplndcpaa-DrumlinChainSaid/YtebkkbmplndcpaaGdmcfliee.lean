/- The writer's end, and the reader of a sector, by their walks. The reader of a sector, by its walks. CRC-32, plainly: no program is spoken of. The two sums, by their walks. -/
import Derived.Test.YtebkkbmplndcpaaGmfiicpcm
import Derived.Deep.MidRow
import Derived.Test.YtebkkbmplndcpaaMath
import Derived.Laws.BitsAllLaws
import Derived.Test.YtebkkbmplndcpaaNumB
namespace Go.Proofs.Ytebkkbmplndcpaa
open Go.RowKit
set_option linter.unusedVariables false
set_option maxRecDepth 100000

def noughts : List Nat := List.replicate 128 0
/-- A sector's cells, and its value. -/
def cells (l : List Nat) : Array Value := (l.map byteV).toArray
theorem noughts_pad : noughts = pad [] := rfl
theorem cells_size (l : List Nat) : (cells l).size = l.length := by simp [cells]
theorem cells_one (l : List Nat) : (cells l).all (·.oneCell') = true := by
  rw [Array.all_eq_true_iff_forall_mem]
  intro v hv
  exact byteV_oneCell l v (by simpa [cells] using hv)

theorem wCells_byte {s : List Nat} {n : Nat} {f : Bool} (h : s.length = 128) {j : Nat} (hj : j < 128) : (wCells s n f)[j]? = some (byteV (s.getD j 0)) := by
  simp only [wCells, List.getElem?_toArray]
  rw [List.getElem?_append_left (by simp; omega)]
  simp [List.getD, List.getElem?_eq_getElem (show j < s.length by omega)]

/-! ### The reader -/
theorem fold_splice (off : Nat) : ∀ (vs : List Value) (k : Nat) (cs : Array Value), off + k + vs.length ≤ cs.size →
    (vs.zipIdx k).foldl (fun cs (p : Value × Nat) => cs.setIfInBounds (off + p.2) p.1) cs = (cs.toList.take (off + k) ++ vs ++ cs.toList.drop (off + k + vs.length)).toArray
  | [], k, cs, h => by simp
  | v :: vs, k, cs, h => by
    simp only [List.length_cons] at h
    simp only [List.zipIdx_cons, List.foldl_cons]
    rw [fold_splice off vs (k + 1) _ (by simp; omega)]
    apply Array.ext'
    simp only [Array.toList_setIfInBounds]
    have h1 : (cs.toList.set (off + k) v).take (off + (k + 1)) = cs.toList.take (off + k) ++ [v] := by
      rw [show off + (k + 1) = (off + k) + 1 by omega, List.take_succ_eq_append_getElem (by simp; omega)]
      rw [List.take_set, List.set_eq_of_length_le (by simp; omega)]
      simp
    have h2 : (cs.toList.set (off + k) v).drop (off + (k + 1) + vs.length) = cs.toList.drop (off + k + (vs.length + 1)) := by
      rw [List.drop_set_of_lt (by omega)]
      congr 1
      omega
    rw [h1, h2]
    simp

end Go.Proofs.Ytebkkbmplndcpaa
namespace Go.Proofs.Ytebkkbmplndcpaa
open Go.RowKit
set_option linter.unusedVariables false
set_option maxRecDepth 100000

theorem alloc_two (w : World) (A B : Obj) : ((w.alloc A).alloc B).heap[w.heap.size + 1]? = some B := heap_alloc2_new w A B

theorem below_setCells {B : Nat} {w w' : World} (h : Below B w w') (a : Addr) (v : Value) : Below B (w.setCell a v) (w'.setCell a v) := by
  refine ⟨h.os, h.tape, h.output, by simpa [World.setCell] using h.size, fun k hk => ?_⟩
  simp only [World.setCell, Array.getElem?_modify]
  rw [h.block k hk]

/-- What Close answers of what is left. -/
def closeOf (s : List Nat) (n : Nat) : Int := if (s.drop n).all (· == 0) then 0 else 21
theorem closeOf_no {s : List Nat} {n k : Nat} (hs : s.length = 128) (hk : n + k < 128) (h : s.getD (n + k) 0 ≠ 0) : closeOf s n = 21 := by
  unfold closeOf
  rw [if_neg]
  intro ha
  rw [List.all_eq_true] at ha
  have h1 : s.getD (n + k) 0 ∈ s.drop n := by
    rw [List.mem_iff_getElem?]
    exact ⟨k, by rw [List.getElem?_drop, List.getElem?_eq_getElem (by omega)]; simp [List.getD, List.getElem?_eq_getElem (show n + k < s.length by omega)]⟩
  exact h (by simpa using ha _ h1)
theorem closeOf_yes {s : List Nat} {n : Nat} (hs : s.length = 128) (hn : n ≤ 128) (h : ∀ j, j < 128 - n → s.getD (n + j) 0 = 0) : closeOf s n = 0 := by
  unfold closeOf
  rw [if_pos]
  rw [List.all_eq_true]
  intro x hx
  obtain ⟨j, hj⟩ := List.mem_iff_getElem?.1 hx
  rw [List.getElem?_drop] at hj
  have hlt := (List.getElem?_eq_some_iff.1 hj).1
  have := h j (by omega)
  simp [List.getD, hj] at this
  simpa using this

end Go.Proofs.Ytebkkbmplndcpaa
namespace Go.Proofs.Ytebkkbmplndcpaa

def crcBit (c : Nat) : Nat := if c % 2 = 1 then c / 2 ^^^ 3988292384 else c / 2
def crcBits : Nat → Nat → Nat
  | 0, c => c
  | k + 1, c => crcBit (crcBits k c)
def crcByte (c x : Nat) : Nat := crcBits 8 (c ^^^ x)
def crcRaw (l : List Nat) : Nat := l.foldl crcByte 4294967295
def crc (l : List Nat) : Nat := 4294967295 - crcRaw l

theorem xor_lt32 {a b : Nat} (ha : a < 4294967296) (hb : b < 4294967296) : a ^^^ b < 4294967296 :=
  Nat.xor_lt_two_pow (n := 32) ha hb
theorem crcBit_lt {c : Nat} (h : c < 4294967296) : crcBit c < 4294967296 := by
  unfold crcBit
  split
  · exact xor_lt32 (by omega) (by decide)
  · omega
theorem crcBits_lt {c : Nat} (h : c < 4294967296) (k : Nat) : crcBits k c < 4294967296 := by
  induction k with
  | zero => exact h
  | succ k ih => exact crcBit_lt ih
theorem crcByte_lt {c x : Nat} (h : c < 4294967296) (hx : x < 256) : crcByte c x < 4294967296 :=
  crcBits_lt (xor_lt32 h (by omega)) 8
theorem crcRaw_snoc (l : List Nat) (x : Nat) : crcRaw (l ++ [x]) = crcByte (crcRaw l) x := by simp [crcRaw]
theorem crcFold_lt (l : List Nat) (hb : Bytes l) : ∀ c, c < 4294967296 → l.foldl crcByte c < 4294967296 := by
  induction l with
  | nil => intro c h; exact h
  | cons x l ih => intro c h; exact ih (fun y hy => hb y (by simp [hy])) _ (crcByte_lt h (hb x (by simp)))
theorem crcRaw_lt (l : List Nat) (hb : Bytes l) : crcRaw l < 4294967296 := crcFold_lt l hb _ (by decide)
theorem crc_lt (l : List Nat) : crc l < 4294967296 := by unfold crc; omega
end Go.Proofs.Ytebkkbmplndcpaa
namespace Go.Proofs.Ytebkkbmplndcpaa
open Go.RowKit
set_option linter.unusedVariables false
set_option maxRecDepth 100000

theorem xor_byte (A X : Nat) (hA : A < 4294967296) (hX : X < 256) : bits .xor .u32 (A : Int) ((X : Int) % 4294967296) = ((A ^^^ X : Nat) : Int) := by
  rw [show ((X : Int) % 4294967296) = (X : Int) by omega]
  exact u32_xor_nat A X hA (by omega)
theorem xor_poly (m : Nat) (hm : m < 4294967296) : bits .xor .u32 ((m : Int) / 2) 3988292384 = ((m / 2 ^^^ 3988292384 : Nat) : Int) := by
  have := u32_xor_nat (m / 2) 3988292384 (by omega) (by decide)
  rw [← this]
  rfl
theorem bit_odd {m j c : Nat} (h : Hid (m = crcBits j c)) (ho : m % 2 = 1) : Hid (m / 2 ^^^ 3988292384 = crcBits (j + 1) c) := by
  show _ = _
  rw [crcBits, ← h.out, crcBit, if_pos ho]
theorem bit_even {m j c : Nat} (h : Hid (m = crcBits j c)) (ho : ¬ m % 2 = 1) : Hid (m / 2 = crcBits (j + 1) c) := by
  show _ = _
  rw [crcBits, ← h.out, crcBit, if_neg ho]

theorem crc_end {A : Nat} {l : List Nat} (h : Hid (A = crcRaw l)) (hA : A < 4294967296) : Ending.returned (.int .u32 (4294967295 - (A : Int))) = .returned (.int .u32 ((crc l : Nat) : Int)) := by
  have e : ((crc l : Nat) : Int) = 4294967295 - (A : Int) := by
    unfold crc
    rw [← h.out]
    omega
  rw [e]

theorem mask_step (m : Nat) (hm : m < 4294967296) :
    bits .xor .u32 ((m : Int) / 2) (bits .and .u32 3988292384 (-bits .and .u32 (m : Int) 1 % 4294967296)) = ((crcBit m : Nat) : Int) := by
  have h1 : bits .and .u32 (m : Int) 1 = ((m % 2 : Nat) : Int) := by
    have := u32_and_nat m 1 hm (by decide)
    rw [Nat.and_one_is_mod] at this
    exact this
  rw [h1]
  unfold crcBit
  by_cases ho : m % 2 = 1
  · rw [if_pos ho, ho]
    have h2 : bits .and .u32 3988292384 (-((1 : Nat) : Int) % 4294967296) = 3988292384 := by
      have := u32_and_nat 3988292384 4294967295 (by decide) (by decide)
      exact this
    rw [h2]
    exact xor_poly m hm
  · have h0 : m % 2 = 0 := by omega
    rw [if_neg ho, h0]
    have h2 : bits .and .u32 3988292384 (-((0 : Nat) : Int) % 4294967296) = 0 := by
      have := u32_and_nat 3988292384 0 (by decide) (by decide)
      exact this
    rw [h2]
    have := u32_xor_nat (m / 2) 0 (by omega) (by decide)
    rw [Nat.xor_zero] at this
    exact this
theorem not_u32 (A : Nat) (hA : A < 4294967296) : bits .xor .u32 IntKind.u32.max (A : Int) = 4294967295 - (A : Int) := by
  show IntKind.u32.wrap ((BitVec.ofInt 32 4294967295 ^^^ BitVec.ofInt 32 (A : Int)).toNat : Int) = _
  have h1 : BitVec.ofInt 32 4294967295 = BitVec.allOnes 32 := by decide
  rw [h1, BitVec.allOnes_xor, BitVec.toNat_not, ofInt_u32 A hA, IntKind.wrap_u32']
  omega

end Go.Proofs.Ytebkkbmplndcpaa
