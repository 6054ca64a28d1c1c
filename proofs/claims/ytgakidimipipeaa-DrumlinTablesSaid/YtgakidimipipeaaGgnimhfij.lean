/- usage.sorted: by halves. Floats of 64 bits as whole numbers: how two stand to each other; what a quotient of two small whole numbers is. -/
import Derived.Test.YtgakidimipipeaaGndjmgbdh
import Derived.Deep.RegionHeld3
import Derived.Laws.FloatArith
namespace Go.Proofs.Ytgakidimipipeaa
open Go.RowKit Go.Sort
set_option linter.unusedVariables false
set_option linter.unusedSimpArgs false
set_option maxRecDepth 100000

def SortedPost (w : World) (n : Nat) (l : List Nat) (e : Ending) (w' : World) : Prop := ∃ a c, e = .returned (.slice a n c) ∧ ReadsV w' a n (natV l) ∧ n ≤ c ∧ Below w.heap.size w w'
theorem natV_drop (l : List Nat) (k : Nat) : natV (l.drop k) = (natV l).drop k := by unfold natV; rw [List.map_drop]
set_option maxHeartbeats 2000000 in
theorem sorted_is (N : Nat) : ∀ (l : List Nat) (a : Option Addr) (cap : Nat) (w : World) (hr : ReadsV w a l.length (natV l)) (hN : l.length ≤ N) (hn : l.length ≤ 100000) (hc : l.length ≤ cap) (S : Nat → Prop) (hS : ∀ x ∈ l, S x) (lt : Nat → Nat → Bool)
    (g : Nat) (lb : Array Value) (eg : ∀ args w, (callFunc g args).run Try.prog w = .ok (.enter g args) w) (hp : LessV g lb S lt w),
    Calls Try.prog 76 #[.slice a l.length cap, .func (.func g) #[] lb] w (SortedPost w l.length (sortL lt l)) := by
  induction N with
  | zero =>
    intro l a cap w hr hN hn hc S hS lt g lb eg hp
    have h0 : l = [] := List.eq_nil_of_length_eq_zero (by omega)
    subst h0
    have hs : sortL lt [] = [] := by unfold sortL; rfl
    rw [hs]
    have HR := Lib.hid hr
    clear hr hp hS hN
    show Calls Try.prog 76 #[.slice a 0 cap, .func (.func g) #[] lb] w _
    go_enter Try.func76, Try.ntmps76
    go_wp2
    go_ret
    exact ⟨a, cap, rfl, HR.out, Nat.zero_le _, Below.refl _ _⟩
  | succ N ih =>
    intro l a cap w hr hN hn hc S hS lt g lb eg hp
    by_cases h2 : l.length < 2
    · have hs : sortL lt l = l := by unfold sortL; rw [dif_pos h2]
      rw [hs]
      have HR := Lib.hid hr
      have ht : (l.length : Int) < 2 := by omega
      clear hr hp hS hN ih hs
      go_enter Try.func76, Try.ntmps76
      go_wp2
      go_ret
      exact ⟨a, cap, rfl, HR.out, hc, Below.refl _ _⟩
    · obtain ⟨n, hnn⟩ : ∃ n, l.length = n := ⟨_, rfl⟩
      obtain ⟨h, hh⟩ : ∃ h, n / 2 = h := ⟨_, rfl⟩
      have hs : sortL lt l = mergeL lt (sortL lt (l.take h)) (sortL lt (l.drop h)) := by
        conv => lhs; unfold sortL
        rw [dif_neg h2, hnn, hh]
      rw [hnn] at h2 hn hc hN hr ⊢
      have hl1 : (l.take h).length = h := by rw [List.length_take, hnn]; omega
      have hl2 : (l.drop h).length = n - h := by rw [List.length_drop, hnn]
      obtain ⟨b, off, rfl, hbw, hjunk⟩ := hr.at (natV_get (l := l) (k := 0) (x := l[0]'(by omega)) (List.getElem?_eq_getElem (by omega)))
      have IHA : Hid (∀ W, Below w.heap.size w W → Calls Try.prog 76 #[.slice (some ⟨b, off, none⟩) h cap, .func (.func g) #[] lb] W (SortedPost W h (sortL lt (l.take h)))) := by
        intro W hW
        have hrd := (hr.below hW).take (k := h) (by omega)
        rw [← natV_take] at hrd
        have := ih (l.take h) (some ⟨b, off, none⟩) cap W (by rw [hl1]; exact hrd) (by omega) (by omega) (by omega) S (fun x hx => hS x (List.mem_of_mem_take hx)) lt g lb eg (hp.below hW)
        rw [hl1] at this
        exact this
      have IHB : Hid (∀ W, Below w.heap.size w W → Calls Try.prog 76 #[.slice (some ⟨b, off + h, none⟩) (n - h) (cap - h), .func (.func g) #[] lb] W (SortedPost W (n - h) (sortL lt (l.drop h)))) := by
        intro W hW
        have hrd := (hr.below hW).drop h
        rw [← natV_drop] at hrd
        have := ih (l.drop h) (some ⟨b, off + h, none⟩) (cap - h) W (by rw [hl2]; exact hrd) (by omega) (by omega) (by omega) S (fun x hx => hS x (List.mem_of_mem_drop hx)) lt g lb eg (hp.below hW)
        rw [hl2] at this
        exact this
      have HM : Hid (∀ W a1 a2 c1 c2, Below w.heap.size w W → ReadsV W a1 h (natV (sortL lt (l.take h))) → ReadsV W a2 (n - h) (natV (sortL lt (l.drop h))) → n - h ≤ c2 → Calls Try.prog 117 #[.slice a1 h c1, .slice a2 (n - h) c2, .func (.func g) #[] lb] W (MergePost W (sortL lt l))) := by
        intro W a1 a2 c1 c2 hW q1 q2 hc2
        have k1 : (sortL lt (l.take h)).length = h := by rw [sortL_length, hl1]
        have k2 : (sortL lt (l.drop h)).length = n - h := by rw [sortL_length, hl2]
        have := merged_is (sortL lt (l.take h)) (sortL lt (l.drop h)) a1 a2 c1 c2 W (by rw [k1]; exact q1) (by rw [k2]; exact q2) (by rw [k1, k2]; omega) (by rw [k2]; exact hc2) S (fun x hx => hS x (List.mem_of_mem_take ((sortL_perm lt _).mem_iff.1 hx))) (fun x hx => hS x (List.mem_of_mem_drop ((sortL_perm lt _).mem_iff.1 hx))) lt g lb eg (hp.below hW)
        rw [k1, k2, ← hs] at this
        exact this
      have HL : Hid ((natV (sortL lt l)).length = n) := by show _ = _; rw [natV_length, sortL_length, hnn]
      have ht : ¬ (n : Int) < 2 := by omega
      have hq : (n : Int) / 2 = (h : Int) := by omega
      have hb1 : (0 : Int) ≤ (h : Int) := by omega
      have hb2 : (h : Int) ≤ (n : Int) := by omega
      have hb3 : (h : Int) ≤ (cap : Int) := by omega
      have hb4 : (h : Int) < (cap : Int) := by omega
      have hb5 : (n : Int) ≤ (cap : Int) := by omega
      have hb6 : h < cap := by omega
      have hb7 : h ≤ n := by omega
      generalize sortL lt l = M at *
      generalize sortL lt (l.take h) = LA at *
      generalize sortL lt (l.drop h) = LB at *
      clear hjunk
      clear hr hp hS hN ih hl1 hl2 hnn hs hh hbw
      go_enter Try.func76, Try.ntmps76
      go_wp2
      go_region_held3 (fun w' => Below w.heap.size w w')
        (first | exact Below.refl _ _ | exact below_drew _ | exact below_next (by assumption) bA | exact below_next (by assumption) bB | exact below_next (by assumption) bM)
        ((first
          | (go_at_call 76; (with_reducible refine (IHA.out _ (by assumption)).mono ?_); rintro e wA ⟨aA, cA, rfl, rdA, cA', bA⟩; try (have rdB := ReadsV.below rdB bA))
          | (go_at_call 76; (with_reducible refine (IHB.out _ (by assumption)).mono ?_); rintro e wB ⟨aB, cB, rfl, rdB, cB', bB⟩; try (have rdA := ReadsV.below rdA bB))
          | (go_at_call 117; (with_reducible refine (HM.out _ _ _ _ _ (by assumption) rdA rdB cB').mono ?_); rintro e wM ⟨vM, rfl, oM, bM⟩)))
      all_goals
        rename_i hHeld
        obtain ⟨aM, cM, hv, rdM, hcM, _⟩ := oM.reads
        rw [HL.out] at hv rdM hcM
        subst hv
        go_wp2
        go_ret
        exact ⟨_, _, rfl, rdM, hcM, hHeld⟩
end Go.Proofs.Ytgakidimipipeaa

namespace Go.Proofs.Ytgakidimipipeaa
open Go Ieee
set_option linter.unusedVariables false
set_option maxRecDepth 100000

def hugeE : Nat := 3000
def hugeN : Nat := 2 ^ hugeE
/-- A number as so many units of the least place; an infinity as a number that is greater than all. -/
def keyD : Datum → Int
  | .number s m e => signed s m (e + 1074).toNat
  | .infinity s => if s then -(hugeN : Int) else (hugeN : Int)
  | .nan _ _ => 0
/-- What a word of 64 bits is read as. -/
def FineD : Datum → Prop
  | .number s m e => m < 2 ^ 53 ∧ -1074 ≤ e ∧ e ≤ 1000
  | _ => True
theorem fine_read (b : Nat) : FineD (Ieee.double.read b) := by
  have e1 : Ieee.double.binade = 4503599627370496 := rfl
  have e2 : Ieee.double.infRung = 9218868437227405312 := rfl
  have e3 : Ieee.double.leastPlace = -1074 := rfl
  unfold Format.read
  simp only
  rw [e1, e2, e3]
  generalize b % Ieee.double.signWeight = r
  split
  · refine ⟨by omega, by omega, by omega⟩
  · split
    · have h1 : r / 4503599627370496 ≤ 2047 := by omega
      have h2 : r % 4503599627370496 < 4503599627370496 := Nat.mod_lt _ (by decide)
      refine ⟨by omega, by omega, by omega⟩
    · split <;> trivial
theorem signed_scale (s : Bool) (m a b : Nat) : signed s m (a + b) = signed s m a * (2 ^ b : Nat) := by
  unfold signed
  rw [Nat.shiftLeft_eq, Nat.shiftLeft_eq, Nat.pow_add, ← Nat.mul_assoc]
  split
  · rw [Int.natCast_mul, Int.neg_mul]
  · rw [Int.natCast_mul]
theorem compare_scale (x y : Int) (k : Nat) (hk : 0 < k) : compare (x * k) (y * k) = compare x y := by
  have hk' : (0 : Int) < k := by omega
  simp only [compare, compareOfLessAndEq]
  have h1 : (x * k < y * k) = (x < y) := propext ⟨fun h => Int.lt_of_mul_lt_mul_right h (by omega), fun h => Int.mul_lt_mul_of_pos_right h hk'⟩
  have h2 : (x * k = y * k) = (x = y) := propext ⟨fun h => Int.eq_of_mul_eq_mul_right (by omega) h, fun h => by rw [h]⟩
  simp only [h1, h2]
theorem signed_bound {s : Bool} {m : Nat} {e : Int} (h : FineD (.number s m e)) : -(hugeN : Int) < signed s m (e + 1074).toNat ∧ signed s m (e + 1074).toNat < (hugeN : Int) := by
  obtain ⟨h1, h2, h3⟩ := h
  have h4 : m <<< (e + 1074).toNat < hugeN := by
    rw [Nat.shiftLeft_eq]
    have a1 : 2 ^ (e + 1074).toNat * 2 ^ 53 ≤ 2 ^ ((e + 1074).toNat + 53) := by rw [Nat.pow_add]; exact Nat.le_refl _
    have a2 : 2 ^ ((e + 1074).toNat + 53) ≤ hugeN := Nat.pow_le_pow_right (by decide) (by unfold hugeE; omega)
    have a3 : m * 2 ^ (e + 1074).toNat < 2 ^ 53 * 2 ^ (e + 1074).toNat := Nat.mul_lt_mul_of_pos_right h1 (Nat.two_pow_pos _)
    rw [Nat.mul_comm (2 ^ 53)] at a3
    omega
  unfold signed
  generalize m <<< (e + 1074).toNat = q at *
  generalize hugeN = z at *
  split <;> omega
theorem keyD_number (s : Bool) (m : Nat) (e : Int) : keyD (.number s m e) = signed s m (e + 1074).toNat := rfl
theorem keyD_inf (s : Bool) : keyD (.infinity s) = if s then -(hugeN : Int) else (hugeN : Int) := rfl
/-- The order of two words: of their keys. -/
theorem order_key {x y : Datum} (hx : FineD x) (hy : FineD y) (nx : x.isNaN = false) (ny : y.isNaN = false) : x.order y = some (compare (keyD x) (keyD y)) := by
  have hp : (0 : Int) < (hugeN : Int) := by
    have : 0 < hugeN := Nat.two_pow_pos _
    omega
  have lt_of : ∀ a b : Int, a < b → compare a b = .lt := fun a b h => by simp [compare, compareOfLessAndEq, h]
  have gt_of : ∀ a b : Int, b < a → compare a b = .gt := fun a b h => by
    have h1 : ¬ a < b := by omega
    have h2 : ¬ a = b := by omega
    simp [compare, compareOfLessAndEq, h1, h2]
  have eq_of : ∀ a : Int, compare a a = .eq := fun a => by simp [compare, compareOfLessAndEq]
  cases x with
  | nan s f => simp [Datum.isNaN] at nx
  | infinity s =>
    cases y with
    | nan t f => simp [Datum.isNaN] at ny
    | infinity t =>
      show some _ = some _
      congr 1
      rw [keyD_inf, keyD_inf]
      generalize (hugeN : Int) = z at *
      cases s <;> cases t <;> simp only [if_true, if_false, Bool.false_eq_true]
      · rw [eq_of]; rfl
      · rw [gt_of _ _ (by omega)]; rfl
      · rw [lt_of _ _ (by omega)]; rfl
      · rw [eq_of]; rfl
    | number t n j =>
      have hb := signed_bound hy
      show some _ = some _
      congr 1
      rw [keyD_number, keyD_inf]
      generalize (hugeN : Int) = z at *
      generalize signed t n (j + 1074).toNat = q at *
      cases s <;> simp only [if_true, if_false, Bool.false_eq_true]
      · rw [gt_of _ _ (by omega)]
      · rw [lt_of _ _ (by omega)]
  | number s m i =>
    cases y with
    | nan t f => simp [Datum.isNaN] at ny
    | infinity t =>
      have hb := signed_bound hx
      show some _ = some _
      congr 1
      rw [keyD_number, keyD_inf]
      generalize (hugeN : Int) = z at *
      generalize signed s m (i + 1074).toNat = q at *
      cases t <;> simp only [if_true, if_false, Bool.false_eq_true]
      · rw [lt_of _ _ (by omega)]
      · rw [gt_of _ _ (by omega)]
    | number t n j =>
      obtain ⟨_, hi, _⟩ := hx
      obtain ⟨_, hj, _⟩ := hy
      show some (compare (signed s m (i - min i j).toNat) (signed t n (j - min i j).toNat)) = some _
      congr 1
      rw [keyD_number, keyD_number]
      have e1 : (i + 1074).toNat = (i - min i j).toNat + (min i j + 1074).toNat := by omega
      have e2 : (j + 1074).toNat = (j - min i j).toNat + (min i j + 1074).toNat := by omega
      rw [e1, e2, signed_scale, signed_scale, compare_scale _ _ _ (Nat.two_pow_pos _)]
/-- A word that is no number. -/
def nanB (b : Nat) : Bool := (Ieee.double.read b).isNaN
def keyB (b : Nat) : Int := keyD (Ieee.double.read b)
theorem order_of (x y : Nat) : Ieee.double.order x y = if nanB x || nanB y then none else some (compare (keyB x) (keyB y)) := by
  unfold Format.order nanB keyB
  have hx := fine_read x
  have hy := fine_read y
  generalize Ieee.double.read x = a at *
  generalize Ieee.double.read y = b at *
  cases h1 : a.isNaN with
  | true =>
    cases a <;> simp [Datum.isNaN] at h1
    cases b <;> rfl
  | false =>
    cases h2 : b.isNaN with
    | true =>
      cases b <;> simp [Datum.isNaN] at h2
      cases a <;> first | rfl | (simp [Datum.isNaN] at h1)
    | false => rw [order_key hx hy h1 h2]; rfl
/-- Is one number less? -/
def fltB (x y : Nat) : Bool := !nanB x && !nanB y && decide (keyB x < keyB y)
theorem order_lt (x y : Nat) : (Ieee.double.order x y == some .lt) = fltB x y := by
  rw [order_of]
  unfold fltB
  cases nanB x <;> cases nanB y <;> simp [compare, compareOfLessAndEq]
  split
  · simp [*]
  · split <;> simp [*]
theorem order_self (x : Nat) (h : nanB x = false) : Ieee.double.order x x = some .eq := by
  rw [order_of, h]
  simp [compare, compareOfLessAndEq]
theorem order_nan (x : Nat) (h : nanB x = true) : Ieee.double.order x x = none := by
  rw [order_of, h]
  rfl
/-- What is no number comes behind. -/
def lessB (x y : Nat) : Bool := fltB x y || (nanB y && !nanB x)
theorem lessB_irr (x : Nat) : lessB x x = false := by
  unfold lessB fltB
  cases nanB x <;> simp
theorem lessB_tr (x y z : Nat) (h1 : lessB x y = true) (h2 : lessB y z = true) : lessB x z = true := by
  revert h1 h2
  unfold lessB fltB
  cases nanB x <;> cases nanB y <;> cases nanB z <;> simp
  omega
theorem lessB_neg (x y z : Nat) (h1 : lessB x y = false) (h2 : lessB y z = false) : lessB x z = false := by
  revert h1 h2
  unfold lessB fltB
  cases nanB x <;> cases nanB y <;> cases nanB z <;> simp
  omega
theorem read_rung {b : Nat} (h : b % Ieee.double.signWeight ≤ Ieee.double.infRung) : nanB b = false := by
  unfold nanB Format.read
  simp only
  generalize b % Ieee.double.signWeight = r at *
  split
  · rfl
  · split
    · rfl
    · rw [if_pos (by omega)]
      rfl
theorem word_rung (s : Bool) (r : Nat) (h : r ≤ Ieee.double.infRung) : Ieee.double.word s r % Ieee.double.signWeight = r := by
  have e2 : Ieee.double.infRung = 9218868437227405312 := rfl
  have e3 : Ieee.double.signWeight = 9223372036854775808 := rfl
  rw [e2] at h
  unfold Format.word
  rw [e3]
  split <;> omega
theorem write_number (s : Bool) (m : Nat) (e : Int) : nanB (Ieee.double.write (.number s m e)) = false := by
  apply read_rung
  show Ieee.double.nearest s m e % _ ≤ _
  unfold Format.nearest
  simp only
  split
  · rw [word_rung _ _ (Nat.zero_le _)]; exact Nat.zero_le _
  · rw [word_rung _ _ (Nat.min_le_right _ _)]; exact Nat.min_le_right _ _
theorem cut_zero (s : Bool) (n : Nat) : Toward.even.cut s n 0 = n := by
  unfold Toward.cut
  simp [Nat.mod_one]
theorem read_word (s : Bool) (r : Nat) (h1 : 4503599627370496 ≤ r) (h2 : r < 9218868437227405312) : ∃ m e, Ieee.double.read (Ieee.double.word s r) = .number s m e ∧ m ≠ 0 := by
  have e1 : Ieee.double.binade = 4503599627370496 := rfl
  have e2 : Ieee.double.infRung = 9218868437227405312 := rfl
  have e3 : Ieee.double.signWeight = 9223372036854775808 := rfl
  have hr := word_rung s r (by rw [e2]; omega)
  have hs : (Ieee.double.word s r / Ieee.double.signWeight % 2 == 1) = s := by
    unfold Format.word
    rw [e3]
    cases s
    · have : r / 9223372036854775808 = 0 := by omega
      simp [this]
    · have : (9223372036854775808 + r) / 9223372036854775808 = 1 := by omega
      simp [this]
  unfold Format.read
  simp only
  rw [hr, hs, e1, e2, if_neg (by omega), if_pos (by omega)]
  exact ⟨_, _, rfl, by omega⟩
theorem shift_log (m : Nat) (h0 : m ≠ 0) (h1 : m ≤ 1125899906842624) : ∃ k, m.log2 + k = 52 ∧ m.log2 ≤ 50 ∧ 4503599627370496 ≤ m <<< k ∧ m <<< k < 9007199254740992 := by
  have a1 : 2 ^ m.log2 ≤ m := Nat.log2_self_le h0
  have a2 : m < 2 ^ (m.log2 + 1) := Nat.lt_log2_self
  have a3 : m.log2 ≤ 50 := by
    apply Nat.le_of_lt_succ
    rw [Nat.log2_lt h0]
    exact Nat.lt_of_le_of_lt h1 (by decide)
  refine ⟨52 - m.log2, by omega, a3, ?_, ?_⟩
  · rw [Nat.shiftLeft_eq]
    have : 2 ^ m.log2 * 2 ^ (52 - m.log2) ≤ m * 2 ^ (52 - m.log2) := Nat.mul_le_mul_right _ a1
    rw [← Nat.pow_add, show m.log2 + (52 - m.log2) = 52 by omega] at this
    exact this
  · rw [Nat.shiftLeft_eq]
    have : m * 2 ^ (52 - m.log2) < 2 ^ (m.log2 + 1) * 2 ^ (52 - m.log2) := Nat.mul_lt_mul_of_pos_right a2 (Nat.two_pow_pos _)
    rw [← Nat.pow_add, show m.log2 + 1 + (52 - m.log2) = 53 by omega] at this
    exact this
theorem rung_fits (B j q : Nat) (h1 : j ≤ 1072) (h2 : B ≤ q) (h3 : q < 2 * B) : B ≤ j * B + q ∧ j * B + q < 2047 * B := by
  have h4 : j * B ≤ 1072 * B := Nat.mul_le_mul_right _ h1
  generalize j * B = z at *
  omega
/-- A small whole number but 0. -/
theorem float_int {n : Int} (h0 : n ≠ 0) (h1 : -1125899906842624 ≤ n) (h2 : n ≤ 1125899906842624) : ∃ m e, Ieee.double.read (floatOfInt .f64 n) = .number (decide (n < 0)) m e ∧ m ≠ 0 := by
  show ∃ m e, Ieee.double.read (Ieee.double.nearest (decide (n < 0)) n.natAbs 0) = _ ∧ _
  obtain ⟨k, hk1, hk2, hk3, hk4⟩ := shift_log n.natAbs (by omega) (by omega)
  have e3 : Ieee.double.leastPlace = -1074 := rfl
  have e1 : Ieee.double.binade = 4503599627370496 := rfl
  have e2 : Ieee.double.infRung = 9218868437227405312 := rfl
  have e4 : Ieee.double.fractionBits = 52 := rfl
  unfold Format.nearest
  simp only
  rw [if_neg (by omega), e1, e2, e3, e4]
  have hlast : max (0 + (n.natAbs.log2 : Int) - (52 : Nat)) (-1074) = -(k : Int) := by omega
  rw [hlast]
  have s1 : ((0 : Int) - -(k : Int)).toNat = k := by omega
  have s2 : (-(k : Int) - 0).toNat = 0 := by omega
  have s3 : (-(k : Int) - -1074).toNat = 1074 - k := by omega
  rw [s1, s2, s3, cut_zero]
  have hk5 : k ≤ 52 := by omega
  have hk6 : 2 ≤ k := by omega
  have hf := rung_fits 4503599627370496 (1074 - k) (n.natAbs <<< k) (by omega) hk3 hk4
  rw [show 2047 * 4503599627370496 = 9218868437227405312 from rfl] at hf
  rw [Nat.min_eq_left (Nat.le_of_lt hf.2)]
  exact read_word _ _ hf.1 hf.2
theorem float_nought : Ieee.double.read (floatOfInt .f64 0) = .number false 0 (-1074) := by decide +kernel
/-- A quotient by a number but 0: some number. -/
theorem quo_some {x y : Int} (hx1 : -1125899906842624 ≤ x) (hx2 : x ≤ 1125899906842624) (h0 : y ≠ 0) (h1 : -1125899906842624 ≤ y) (h2 : y ≤ 1125899906842624) : ∃ r, Ieee.double.div (floatOfInt .f64 x) (floatOfInt .f64 y) = some r ∧ nanB r = false := by
  obtain ⟨m, e, hm, hm0⟩ := float_int h0 h1 h2
  have hx : ∃ s n i, Ieee.double.read (floatOfInt .f64 x) = .number s n i := by
    by_cases hz : x = 0
    · subst hz; exact ⟨_, _, _, float_nought⟩
    · obtain ⟨n, i, hn, _⟩ := float_int hz hx1 hx2
      exact ⟨_, _, _, hn⟩
  obtain ⟨s, n, i, hn⟩ := hx
  unfold Format.div
  rw [hm, hn]
  unfold Datum.quotient
  simp only
  rw [if_neg hm0]
  exact ⟨_, rfl, write_number _ _ _⟩
/-- By 0. -/
theorem quo_none : Ieee.double.div (floatOfInt .f64 0) (floatOfInt .f64 0) = none := by decide +kernel
theorem quo_inf {x : Int} (h0 : x ≠ 0) (h1 : -1125899906842624 ≤ x) (h2 : x ≤ 1125899906842624) : Ieee.double.div (floatOfInt .f64 x) (floatOfInt .f64 0) = some (Ieee.double.word (decide (x < 0)) Ieee.double.infRung) := by
  obtain ⟨m, e, hm, hm0⟩ := float_int h0 h1 h2
  unfold Format.div
  rw [hm, float_nought]
  unfold Datum.quotient
  simp only
  rw [if_pos trivial, if_neg hm0]
  simp only [Option.map_some, Format.write, Bool.xor_false]
end Go.Proofs.Ytgakidimipipeaa
