/- Plain facts on bytes and the numbers that they make: no program is spoken of. -/
import Derived.Lib.EndianBits
import Derived.Below
namespace Go.Proofs.YtebgejoemlgggaaDoor
open Go.RowKit

/-- The number of bytes, the lowest first. -/
def le : List Nat → Nat
  | [] => 0
  | x :: l => x + 256 * le l

/-- The lowest bytes of a number. -/
def low : Nat → Nat → List Nat
  | _, 0 => []
  | n, k + 1 => n % 256 :: low (n / 256) k

def Bytes (l : List Nat) : Prop := ∀ x ∈ l, x < 256

theorem low_length (n k : Nat) : (low n k).length = k := by
  induction k generalizing n with
  | zero => rfl
  | succ k ih => simp [low, ih]

theorem low_bytes (n k : Nat) : Bytes (low n k) := by
  induction k generalizing n with
  | zero => intro x hx; simp [low] at hx
  | succ k ih =>
    intro x hx
    simp only [low, List.mem_cons] at hx
    rcases hx with rfl | hx
    · omega
    · exact ih _ x hx

theorem le_low (n k : Nat) (h : n < 256 ^ k) : le (low n k) = n := by
  induction k generalizing n with
  | zero => simp at h; subst h; rfl
  | succ k ih =>
    simp only [low, le]
    rw [ih (n / 256) (by rw [Nat.pow_succ] at h; omega)]
    omega

theorem le_lt (l : List Nat) (h : Bytes l) : le l < 256 ^ l.length := by
  induction l with
  | nil => simp [le]
  | cons x l ih =>
    have h1 := h x (by simp)
    have h2 := ih (fun y hy => h y (by simp [hy]))
    simp only [le, List.length_cons, Nat.pow_succ]
    omega

theorem low_le (l : List Nat) (h : Bytes l) : low (le l) l.length = l := by
  induction l with
  | nil => rfl
  | cons x l ih =>
    have h1 := h x (by simp)
    have h2 := ih (fun y hy => h y (by simp [hy]))
    simp only [le, List.length_cons, low]
    rw [show (x + 256 * le l) % 256 = x by omega, show (x + 256 * le l) / 256 = le l by omega, h2]

theorem le_snoc (l : List Nat) (x : Nat) : le (l ++ [x]) = le l + x * 256 ^ l.length := by
  induction l with
  | nil => simp [le]
  | cons y l ih =>
    simp only [le, List.cons_append, List.length_cons, ih, Nat.pow_succ]
    rw [Nat.mul_add, ← Nat.mul_assoc, Nat.mul_comm 256 x, Nat.mul_assoc, Nat.mul_comm 256 (256 ^ _), Nat.add_assoc]

theorem low_snoc (n k : Nat) : low n (k + 1) = low n k ++ [n / 256 ^ k % 256] := by
  induction k generalizing n with
  | zero => simp [low]
  | succ k ih =>
    rw [low, ih (n / 256)]
    simp only [low, List.cons_append]
    rw [Nat.div_div_eq_div_mul, Nat.pow_succ, Nat.mul_comm 256]

theorem take_snoc_getD (l : List Nat) (k : Nat) (h : k < l.length) : l.take (k + 1) = l.take k ++ [l.getD k 0] := by
  rw [List.take_succ_eq_append_getElem h]; simp [List.getD, List.getElem?_eq_getElem h]

theorem Bytes.take {l : List Nat} (h : Bytes l) (k : Nat) : Bytes (l.take k) := fun x hx => h x (List.mem_of_mem_take hx)
theorem Bytes.drop {l : List Nat} (h : Bytes l) (k : Nat) : Bytes (l.drop k) := fun x hx => h x (List.mem_of_mem_drop hx)
theorem Bytes.append {a b : List Nat} (h : Bytes a) (h' : Bytes b) : Bytes (a ++ b) := fun x hx => by
  rcases List.mem_append.1 hx with h1 | h1
  · exact h x h1
  · exact h' x h1
theorem Bytes.getD {l : List Nat} (h : Bytes l) (k : Nat) : l.getD k 0 < 256 := by
  rw [List.getD_eq_getElem?_getD]
  cases hk : l[k]? with
  | none => simp
  | some x => exact h x (List.mem_of_getElem? hk)

theorem pow256 (k : Nat) : 256 ^ k = 2 ^ (8 * k) := by rw [Nat.pow_mul]
theorem pow256_le (k : Nat) (h : k ≤ 8) : 256 ^ k ≤ 18446744073709551616 := by
  have := Nat.pow_le_pow_right (n := 256) (by decide) h
  exact this

/-- One byte more of a number: the walk's own form. -/
theorem or_byte (n x k : Nat) (hk : k < 8) (hn : n < 256 ^ k) (hx : x < 256) :
    bits .or .u64 (n : Int) ((x : Int) * 2 ^ (8 * k)) = ((n + x * 256 ^ k : Nat) : Int) := by
  have hp : (256 : Nat) ^ (k + 1) ≤ 18446744073709551616 := pow256_le (k + 1) (by omega)
  have h1 : n + x * 256 ^ k < 256 ^ (k + 1) := by
    rw [Nat.pow_succ]
    have : x * 256 ^ k ≤ 255 * 256 ^ k := Nat.mul_le_mul_right _ (by omega)
    omega
  have e : ((x : Int) * 2 ^ (8 * k)) = ((x * 256 ^ k : Nat) : Int) := by rw [pow256]; simp
  rw [e]
  have hn' : n < 2 ^ (8 * k) := by rw [← pow256]; exact hn
  refine (bits_join_low .u64 64 (by decide) wraps_u64 (8 * k) n ((x * 256 ^ k : Nat) : Int) (by omega) (by exact_mod_cast hn') ?_ (by omega) ?_ ?_).trans (by simp)
  · have : n < 18446744073709551616 := by omega
    exact_mod_cast this
  · have : (x * 256 ^ k) % 2 ^ (8 * k) = 0 := by rw [pow256]; exact Nat.mul_mod_left _ _
    exact_mod_cast this
  · have : x * 256 ^ k < 18446744073709551616 := by omega
    exact_mod_cast this

/-- The same where the walk has left its wraps. -/
theorem or_byte_wrapped (n x k : Nat) (hk : k < 8) (hn : n < 256 ^ k) (hx : x < 256) :
    bits .or .u64 (n : Int) (IntKind.u64.wrap (IntKind.u64.wrap (x : Int) * 2 ^ (8 * k))) = ((n + x * 256 ^ k : Nat) : Int) := by
  have hp : (256 : Nat) ^ (k + 1) ≤ 18446744073709551616 := pow256_le (k + 1) (by omega)
  have h1 : x * 256 ^ k < 256 ^ (k + 1) := by
    rw [Nat.pow_succ, Nat.mul_comm]
    exact Nat.mul_lt_mul_of_pos_left hx (Nat.pow_pos (by decide))
  have e : ((x : Int) * 2 ^ (8 * k)) = ((x * 256 ^ k : Nat) : Int) := by rw [pow256]; simp
  rw [u64_wrap_id (x : Int) (by omega) (by omega), u64_wrap_id _ (by rw [e]; omega) (by rw [e]; omega)]
  exact or_byte n x k hk hn hx

theorem le_drop_step (l : List Nat) (k : Nat) (hk : k < l.length) : le (l.drop k) = 256 * le (l.drop (k + 1)) + l.getD k 0 := by
  rw [List.drop_eq_getElem_cons hk]
  simp only [le, List.getD, List.getElem?_eq_getElem hk, Option.getD_some]
  omega
theorem le_lt64 (l : List Nat) (h : Bytes l) (h8 : l.length ≤ 8) : le l < 18446744073709551616 :=
  Nat.lt_of_lt_of_le (le_lt l h) (pow256_le _ h8)
theorem ret_u64 {a b : Nat} (h : a = b) : Ending.returned (.int .u64 (a : Nat)) = .returned (.int .u64 (b : Nat)) := by rw [h]

theorem cast_pow (q : Nat) : (2 : Int) ^ (8 * q) = ((256 ^ q : Nat) : Int) := by rw [pow256]; simp
theorem great_yes {n q : Nat} (h : 256 ^ q ≤ n) : ((n : Int) / 2 ^ (8 * q) != 0) = true := by
  rw [cast_pow, bne_iff_ne]
  have : 0 < n / 256 ^ q := Nat.div_pos h (Nat.pow_pos (by decide))
  intro e
  have : ((n / 256 ^ q : Nat) : Int) = 0 := by rw [Int.natCast_ediv]; exact e
  omega
theorem great_no {n q : Nat} (h : n < 256 ^ q) : ((n : Int) / 2 ^ (8 * q) != 0) = false := by
  rw [cast_pow]
  have : ((n / 256 ^ q : Nat) : Int) = 0 := by rw [Nat.div_eq_of_lt h]; rfl
  rw [Int.natCast_ediv] at this
  rw [this]
  rfl
/-- A number's byte, as the walk spells it. -/
theorem byte_of (n k : Nat) : ((n : Int) / 2 ^ (8 * k)) % 256 = ((n / 256 ^ k % 256 : Nat) : Int) := by
  rw [cast_pow]
  simp
end Go.Proofs.YtebgejoemlgggaaDoor
