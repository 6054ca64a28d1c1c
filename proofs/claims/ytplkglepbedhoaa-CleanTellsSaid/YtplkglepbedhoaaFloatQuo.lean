/- What the quotient of two small whole numbers is, but for a small part of it: so a greater number divided by the same one is a greater float. -/
import Derived.Test.YtplkglepbedhoaaFloatMath
namespace Go.Proofs.Ytplkglepbedhoaa
open Go Ieee
set_option linter.unusedVariables false
set_option maxRecDepth 100000

theorem log_13 {m : Nat} (h0 : m ≠ 0) (h1 : m ≤ 5000) : m.log2 ≤ 12 := by
  apply Nat.le_of_lt_succ
  rw [Nat.log2_lt h0]
  omega
/-- What a word of a rung is read as. -/
theorem read_rungs (r : Nat) (h1 : 4503599627370496 ≤ r) (h2 : r < 9218868437227405312) : Ieee.double.read (Ieee.double.word false r) = .number false (4503599627370496 + r % 4503599627370496) (-1074 + ((r / 4503599627370496 - 1 : Nat) : Int)) := by
  have e1 : Ieee.double.binade = 4503599627370496 := rfl
  have e2 : Ieee.double.infRung = 9218868437227405312 := rfl
  have e3 : Ieee.double.signWeight = 9223372036854775808 := rfl
  have e4 : Ieee.double.leastPlace = -1074 := rfl
  have hr := word_rung false r (by rw [e2]; omega)
  have hs : (Ieee.double.word false r / Ieee.double.signWeight % 2 == 1) = false := by
    unfold Format.word
    rw [e3]
    have : r / 9223372036854775808 = 0 := by omega
    simp [this]
  unfold Format.read
  simp only
  rw [hr, hs, e1, e2, e4, if_neg (by omega), if_pos (by omega)]
/-- A small whole number but 0, with its digits. -/
theorem float_small {n : Nat} (h0 : n ≠ 0) (h1 : n ≤ 5000) : ∃ k : Nat, 40 ≤ k ∧ k ≤ 52 ∧ 4503599627370496 ≤ n * 2 ^ k ∧ n * 2 ^ k < 9007199254740992 ∧ Ieee.double.read (floatOfInt .f64 (n : Int)) = .number false (n * 2 ^ k) (-(k : Int)) := by
  obtain ⟨k, hk1, hk2, hk3, hk4⟩ := shift_log n h0 (by omega)
  have hl := log_13 h0 h1
  rw [Nat.shiftLeft_eq] at hk3 hk4
  refine ⟨k, by omega, by omega, hk3, hk4, ?_⟩
  show Ieee.double.read (Ieee.double.nearest (decide ((n : Int) < 0)) (n : Int).natAbs 0) = _
  rw [show decide ((n : Int) < 0) = false by simp, Int.natAbs_natCast]
  have e3 : Ieee.double.leastPlace = -1074 := rfl
  have e1 : Ieee.double.binade = 4503599627370496 := rfl
  have e2 : Ieee.double.infRung = 9218868437227405312 := rfl
  have e4 : Ieee.double.fractionBits = 52 := rfl
  unfold Format.nearest
  simp only
  rw [if_neg h0, e1, e2, e3, e4]
  have hlast : max (0 + (n.log2 : Int) - (52 : Nat)) (-1074) = -(k : Int) := by omega
  rw [hlast]
  have s1 : ((0 : Int) - -(k : Int)).toNat = k := by omega
  have s2 : (-(k : Int) - 0).toNat = 0 := by omega
  have s3 : (-(k : Int) - -1074).toNat = 1074 - k := by omega
  rw [s1, s2, s3, cut_zero, Nat.shiftLeft_eq]
  have hf := rung_fits 4503599627370496 (1074 - k) (n * 2 ^ k) (by omega) hk3 hk4
  rw [show 2047 * 4503599627370496 = 9218868437227405312 from rfl] at hf
  rw [Nat.min_eq_left (Nat.le_of_lt hf.2), read_rungs _ hf.1 hf.2]
  generalize n * 2 ^ k = q at *
  have d1 : ((1074 - k) * 4503599627370496 + q) / 4503599627370496 = 1074 - k + 1 := by omega
  have d2 : ((1074 - k) * 4503599627370496 + q) % 4503599627370496 = q - 4503599627370496 := by omega
  have e5 : 4503599627370496 + (q - 4503599627370496) = q := by omega
  have e6 : (-1074 + ((1074 - k + 1 - 1 : Nat) : Int)) = -(k : Int) := by omega
  rw [d1, d2, e5, e6]
/-- What is cut off of some digits. -/
theorem cut_near (n d : Nat) (hd : d ≤ n.log2 + 2) : Toward.even.cut false n d * 2 ^ d ≤ n + 2 ^ d ∧ n < Toward.even.cut false n d * 2 ^ d + 2 ^ d := by
  unfold Toward.cut
  simp only
  rw [Nat.min_eq_left hd, Nat.shiftLeft_eq, Nat.one_mul]
  have hp : 0 < 2 ^ d := Nat.two_pow_pos _
  generalize 2 ^ d = g at *
  have h1 := Nat.div_add_mod n g
  have h2 := Nat.mod_lt n hp
  generalize n % g = t at *
  rw [Nat.mul_comm] at h1
  have h3 : (n / g + 1) * g = n / g * g + g := Nat.succ_mul _ _
  have h4 : ∀ b : Bool, (n / g + b.toNat) * g = n / g * g ∨ (n / g + b.toNat) * g = n / g * g + g := fun b => by cases b <;> simp [h3]
  rcases h4 (decide (g < 2 * t) || g == 2 * t && n / g % 2 == 1) with h | h
  · rw [h]; omega
  · rw [h]; omega
theorem cut_range (n d : Nat) (hd : d ≤ n.log2 + 2) (h1 : 2 ^ (52 + d) ≤ n) (h2 : n < 2 ^ (53 + d)) : 4503599627370496 ≤ Toward.even.cut false n d ∧ Toward.even.cut false n d ≤ 9007199254740992 := by
  unfold Toward.cut
  simp only
  rw [Nat.min_eq_left hd, Nat.shiftLeft_eq, Nat.one_mul]
  have hp : 0 < 2 ^ d := Nat.two_pow_pos _
  rw [Nat.pow_add] at h1 h2
  generalize 2 ^ d = g at *
  have h5 : 2 ^ 52 ≤ n / g := (Nat.le_div_iff_mul_le hp).2 h1
  have h6 : n / g < 2 ^ 53 := (Nat.div_lt_iff_lt_mul hp).2 h2
  have h7 : ∀ b : Bool, b.toNat ≤ 1 := fun b => by cases b <;> decide
  have h8 := h7 (decide (g < 2 * (n % g)) || g == 2 * (n % g) && n / g % 2 == 1)
  rw [show (2 : Nat) ^ 52 = 4503599627370496 from rfl] at h5
  rw [show (2 : Nat) ^ 53 = 9007199254740992 from rfl] at h6
  omega
/-- The value of a rung. -/
theorem key_rung (e q : Nat) (h1 : 4503599627370496 ≤ q) (h2 : q ≤ 9007199254740992) (h3 : e ≤ 2000) : keyB (Ieee.double.word false (e * 4503599627370496 + q)) = ((q * 2 ^ e : Nat) : Int) := by
  unfold keyB
  by_cases hq : q = 9007199254740992
  · subst hq
    rw [read_rungs _ (by omega) (by omega)]
    have d1 : (e * 4503599627370496 + 9007199254740992) / 4503599627370496 - 1 = e + 1 := by omega
    have d2 : (e * 4503599627370496 + 9007199254740992) % 4503599627370496 = 0 := by omega
    rw [d1, d2, keyD_number, show (-1074 + ((e + 1 : Nat) : Int) + 1074).toNat = e + 1 by omega]
    unfold signed
    rw [if_neg (by decide), Nat.shiftLeft_eq, Nat.add_zero, Nat.pow_succ, show 4503599627370496 * (2 ^ e * 2) = 9007199254740992 * 2 ^ e from by generalize 2 ^ e = z; omega]
  · rw [read_rungs _ (by omega) (by omega)]
    have d1 : (e * 4503599627370496 + q) / 4503599627370496 - 1 = e := by omega
    have d2 : (e * 4503599627370496 + q) % 4503599627370496 = q - 4503599627370496 := by omega
    rw [d1, d2, keyD_number, show (-1074 + (e : Int) + 1074).toNat = e by omega, show 4503599627370496 + (q - 4503599627370496) = q by omega]
    unfold signed
    rw [if_neg (by decide), Nat.shiftLeft_eq]
theorem min_rung (k q : Nat) (h : k ≤ 2000) (hq : q ≤ 9007199254740992) : min (k * 4503599627370496 + q) 9218868437227405312 = k * 4503599627370496 + q := Nat.min_eq_left (by omega)
/-- What is written of a number with more digits than there are. -/
theorem near_key (Q : Nat) (p : Int) (d : Nat) (hd : d ≤ 3) (hp1 : -1000 ≤ p) (hp2 : p ≤ 900) (h1 : 2 ^ (52 + d) ≤ Q) (h2 : Q < 2 ^ (53 + d)) : ∃ q : Nat, nanB (Ieee.double.nearest false Q p) = false ∧ keyB (Ieee.double.nearest false Q p) = ((q * 2 ^ d * 2 ^ (p + 1074).toNat : Nat) : Int) ∧ q * 2 ^ d ≤ Q + 2 ^ d ∧ Q < q * 2 ^ d + 2 ^ d := by
  have e3 : Ieee.double.leastPlace = -1074 := rfl
  have e1 : Ieee.double.binade = 4503599627370496 := rfl
  have e2 : Ieee.double.infRung = 9218868437227405312 := rfl
  have e4 : Ieee.double.fractionBits = 52 := rfl
  have hQ0 : Q ≠ 0 := by have := Nat.two_pow_pos (52 + d); omega
  have hlog : Q.log2 = 52 + d := by
    apply Nat.le_antisymm
    · apply Nat.le_of_lt_succ
      rw [Nat.log2_lt hQ0]
      exact Nat.lt_of_lt_of_le h2 (Nat.pow_le_pow_right (by decide) (by omega))
    · exact (Nat.le_log2 hQ0).2 h1
  refine ⟨Toward.even.cut false Q d, write_number false Q p, ?_, cut_near Q d (by omega)⟩
  have hr := cut_range Q d (by omega) h1 h2
  unfold Format.nearest
  simp only
  rw [if_neg hQ0, e1, e2, e3, e4, hlog]
  have hlast : max (p + ((52 + d : Nat) : Int) - (52 : Nat)) (-1074) = p + (d : Int) := by omega
  rw [hlast]
  have s1 : (p - (p + (d : Int))).toNat = 0 := by omega
  have s2 : (p + (d : Int) - p).toNat = d := by omega
  have s3 : (p + (d : Int) - -1074).toNat = d + (p + 1074).toNat := by omega
  rw [s1, s2, s3, Nat.shiftLeft_zero]
  generalize Toward.even.cut false Q d = q at *
  have he : d + (p + 1074).toNat ≤ 2000 := by omega
  generalize (p + 1074).toNat = e at *
  have hm := min_rung (d + e) q he hr.2
  have hk := key_rung (d + e) q hr.1 hr.2 he
  rw [Nat.pow_add, ← Nat.mul_assoc] at hk
  exact (congrArg (fun z => keyB (Ieee.double.word false z)) hm).trans hk
def unitE : Nat := 1074
def slackE : Nat := 1040
theorem pow_34 : (2 : Nat) ^ 34 = 17179869184 := by decide
theorem unit_slack : 2 ^ unitE = 2 ^ slackE * 17179869184 := by
  have h : unitE = slackE + 34 := rfl
  have e := Nat.pow_add 2 slackE 34
  rw [← h, pow_34] at e
  exact e
theorem quo_core {a r n U S e g y D s K X : Nat} (hXU : X * 2 * e = a * U * g) (hsl : 16 * n * e ≤ S * g) (hnn : r * g = n) (hK : K = y * e) (hq1 : y ≤ 2 * D + s + 8) (hq2 : 2 * D + s < y + 8) (hs : s ≤ 1) (hD1 : D * n ≤ X) (hD2 : X < (D + 1) * n) (hg : 0 < g) :
    K * r ≤ a * U + S ∧ a * U ≤ K * r + S := by
  have hKn : K * n = y * n * e := by rw [hK, Nat.mul_right_comm]
  have y1 : y * n ≤ 2 * X + 16 * n := by
    have : y * n ≤ (2 * D + 16) * n := Nat.mul_le_mul_right _ (by omega)
    rw [Nat.add_mul, Nat.mul_assoc] at this
    omega
  have y2 : 2 * X ≤ y * n + 16 * n := by
    have a1 : (2 * D + 2) * n ≤ (y + 16) * n := Nat.mul_le_mul_right _ (by omega)
    have a2 : (2 * D + 2) * n = 2 * ((D + 1) * n) := by
      rw [show 2 * D + 2 = 2 * (D + 1) by omega, Nat.mul_assoc]
    rw [Nat.add_mul y] at a1
    omega
  have z1 : y * n * e ≤ X * 2 * e + 16 * n * e := by
    have := Nat.mul_le_mul_right e y1
    rw [Nat.add_mul, Nat.mul_comm 2 X] at this
    exact this
  have z2 : X * 2 * e ≤ y * n * e + 16 * n * e := by
    have := Nat.mul_le_mul_right e y2
    rw [Nat.add_mul, Nat.mul_comm 2 X] at this
    exact this
  rw [hXU, ← hKn] at z1 z2
  have hKr : K * n = K * r * g := by rw [← hnn, Nat.mul_assoc]
  rw [hKr] at z1 z2
  constructor
  · apply Nat.le_of_mul_le_mul_right _ hg
    rw [Nat.add_mul]
    omega
  · apply Nat.le_of_mul_le_mul_right _ hg
    rw [Nat.add_mul]
    omega
theorem pow_57 : (2 : Nat) ^ 57 = 16 * 9007199254740992 := by decide
/-- The quotient's plain bounds. -/
theorem quo_bounds (a r ka kr E K q d D s : Nat) (hka : ka + E = 1019 + kr) (h40 : 40 ≤ ka) (h52 : ka ≤ 52) (hn : r * 2 ^ kr < 9007199254740992) (hd : 2 ^ d ≤ 8) (hs : s ≤ 1)
    (hK : K = q * 2 ^ d * 2 ^ E) (hq1 : q * 2 ^ d ≤ 2 * D + s + 2 ^ d) (hq2 : 2 * D + s < q * 2 ^ d + 2 ^ d) (hD1 : D * (r * 2 ^ kr) ≤ a * 2 ^ ka * 2 ^ 54) (hD2 : a * 2 ^ ka * 2 ^ 54 < (D + 1) * (r * 2 ^ kr)) :
    K * r ≤ a * 2 ^ unitE + 2 ^ slackE ∧ a * 2 ^ unitE ≤ K * r + 2 ^ slackE := by
  have hu : 2 ^ ka * 2 ^ 54 * 2 * 2 ^ E = 2 ^ unitE * 2 ^ kr := by
    rw [← Nat.pow_add, ← Nat.pow_succ, ← Nat.pow_add, ← Nat.pow_add]
    have : ka + 54 + 1 + E = unitE + kr := by unfold unitE; omega
    exact congrArg (fun x => 2 ^ x) this
  have hsl : 16 * (r * 2 ^ kr) * 2 ^ E ≤ 2 ^ slackE * 2 ^ kr := by
    have h1 : 16 * (r * 2 ^ kr) ≤ 2 ^ 57 := by
      rw [pow_57]; omega
    have h2 : 16 * (r * 2 ^ kr) * 2 ^ E ≤ 2 ^ 57 * 2 ^ E := Nat.mul_le_mul_right _ h1
    refine Nat.le_trans h2 ?_
    rw [← Nat.pow_add, ← Nat.pow_add]
    apply Nat.pow_le_pow_right (by decide)
    unfold slackE
    omega
  refine quo_core (D := D) (s := s) (X := a * 2 ^ ka * 2 ^ 54) (e := 2 ^ E) (g := 2 ^ kr) (y := q * 2 ^ d) (n := r * 2 ^ kr) ?_ hsl rfl hK (Nat.le_trans hq1 (Nat.add_le_add_left hd _)) (Nat.lt_of_lt_of_le hq2 (Nat.add_le_add_left hd _)) hs hD1 hD2 (Nat.two_pow_pos _)
  rw [Nat.mul_assoc a, Nat.mul_assoc a, Nat.mul_assoc a, hu, ← Nat.mul_assoc]
/-- The quotient of two small numbers: some number, whose key is about as great. -/
theorem quo_key {a r : Nat} (ha : a ≤ 5000) (h0 : r ≠ 0) (h1 : r ≤ 5000) : ∃ w K : Nat, Ieee.double.div (floatOfInt .f64 (a : Int)) (floatOfInt .f64 (r : Int)) = some w ∧ nanB w = false ∧ keyB w = (K : Int) ∧ K * r ≤ a * 2 ^ unitE + 2 ^ slackE ∧ a * 2 ^ unitE ≤ K * r + 2 ^ slackE := by
  obtain ⟨kr, r1, r2, r3, r4, r5⟩ := float_small h0 h1
  by_cases hz : a = 0
  · subst hz
    unfold Format.div
    rw [r5, show (((0 : Nat) : Int)) = 0 from rfl, float_nought]
    unfold Datum.quotient
    simp only
    rw [if_neg (by omega), Nat.zero_shiftLeft, Nat.zero_div, Nat.zero_mod]
    refine ⟨_, 0, rfl, write_number _ _ _, ?_, by simp, by simp⟩
    show keyB (Ieee.double.nearest (false ^^ false) (2 * 0 + (0 != 0).toNat) _) = _
    unfold Format.nearest
    simp only
    rw [if_pos (by decide)]
    decide +kernel
  · obtain ⟨ka, a1, a2, a3, a4, a5⟩ := float_small hz ha
    have lg : ∀ m : Nat, 4503599627370496 ≤ m → m < 9007199254740992 → m.log2 = 52 := fun m m1 m2 => by
      apply Nat.le_antisymm
      · apply Nat.le_of_lt_succ
        rw [Nat.log2_lt (by omega)]
        exact m2
      · exact (Nat.le_log2 (by omega)).2 m1
    unfold Format.div
    rw [r5, a5]
    unfold Datum.quotient
    simp only
    have e4 : Ieee.double.fractionBits = 52 := rfl
    rw [if_neg (by omega), e4, lg _ r3 r4, lg _ a3 a4, show 52 + 2 + 52 - 52 = 54 from rfl, Nat.shiftLeft_eq]
    generalize hn : r * 2 ^ kr = n at *
    generalize hm : a * 2 ^ ka = m at *
    have hnp : 0 < n := by omega
    have hD1 : m * 2 ^ 54 / n * n ≤ m * 2 ^ 54 := Nat.div_mul_le_self _ _
    have hD2 : m * 2 ^ 54 < (m * 2 ^ 54 / n + 1) * n := by
      have := Nat.lt_div_mul_add hnp (a := m * 2 ^ 54)
      rw [Nat.add_mul, Nat.one_mul]
      exact this
    have hlo : 9007199254740992 ≤ m * 2 ^ 54 / n := by
      rw [Nat.le_div_iff_mul_le hnp, show (2 : Nat) ^ 54 = 18014398509481984 from rfl]
      omega
    have hhi : m * 2 ^ 54 / n < 36028797018963968 := by
      rw [Nat.div_lt_iff_lt_mul hnp, show (2 : Nat) ^ 54 = 18014398509481984 from rfl]
      omega
    have hs : (m * 2 ^ 54 % n != 0).toNat ≤ 1 := by cases (m * 2 ^ 54 % n != 0) <;> decide
    generalize hDe : m * 2 ^ 54 / n = D at *
    generalize hse : (m * 2 ^ 54 % n != 0).toNat = s at *
    have hp : (-(ka : Int) - -(kr : Int) - (54 : Nat) - 1) = (kr : Int) - ka - 55 := by omega
    have hfin : ∃ d, d ≤ 3 ∧ 2 ^ (52 + d) ≤ 2 * D + s ∧ 2 * D + s < 2 ^ (53 + d) ∧ 2 ^ d ≤ 8 := by
      by_cases hb : 2 * D + s < 36028797018963968
      · exact ⟨2, by omega, by rw [show (2 : Nat) ^ (52 + 2) = 18014398509481984 from rfl]; omega, by rw [show (2 : Nat) ^ (53 + 2) = 36028797018963968 from rfl]; omega, by decide⟩
      · exact ⟨3, by omega, by rw [show (2 : Nat) ^ (52 + 3) = 36028797018963968 from rfl]; omega, by rw [show (2 : Nat) ^ (53 + 3) = 72057594037927936 from rfl]; omega, by decide⟩
    obtain ⟨d, d1, d2, d3, d4⟩ := hfin
    obtain ⟨q, q0, q1, q2, q3⟩ := near_key (2 * D + s) ((kr : Int) - ka - 55) d d1 (by omega) (by omega) d2 d3
    refine ⟨_, q * 2 ^ d * 2 ^ ((kr : Int) - ka - 55 + 1074).toNat, ?_, q0, q1, ?_⟩
    · rw [hp]
      rfl
    · subst hn hm
      refine quo_bounds a r ka kr _ _ q d D s ?_ a1 a2 r4 d4 hs rfl q2 q3 hD1 hD2
      omega
theorem near_lt (Q : Nat) (p : Int) : Ieee.double.nearest false Q p ≤ 9218868437227405312 := by
  have e2 : Ieee.double.infRung = 9218868437227405312 := rfl
  unfold Format.nearest
  simp only
  unfold Format.word
  simp only [Bool.false_eq_true, if_false]
  rw [e2]
  split
  · exact Nat.zero_le _
  · exact Nat.min_le_right _ _
theorem quo_lt {a r w : Nat} (ha : a ≤ 5000) (h0 : r ≠ 0) (h1 : r ≤ 5000) (h : Ieee.double.div (floatOfInt .f64 (a : Int)) (floatOfInt .f64 (r : Int)) = some w) : w ≤ 9218868437227405312 := by
  obtain ⟨kr, r1, r2, r3, r4, r5⟩ := float_small h0 h1
  have hx : ∃ n i, Ieee.double.read (floatOfInt .f64 (a : Int)) = .number false n i := by
    by_cases hz : a = 0
    · subst hz; exact ⟨_, _, float_nought⟩
    · obtain ⟨ka, _, _, _, _, a5⟩ := float_small hz ha
      exact ⟨_, _, a5⟩
  obtain ⟨n, i, hn⟩ := hx
  unfold Format.div at h
  rw [r5, hn] at h
  unfold Datum.quotient at h
  simp only at h
  rw [if_neg (by omega)] at h
  have h := Option.some.inj h
  rw [← h]
  exact near_lt _ _
/-- A float with the other sign. -/
theorem xor_sign {b : Nat} (h : b < 9223372036854775808) : b ^^^ 9223372036854775808 = 9223372036854775808 + b := by
  have e : (9223372036854775808 : Nat) = 2 ^ 63 := rfl
  rw [e] at h ⊢
  apply Nat.eq_of_testBit_eq
  intro i
  rw [Nat.testBit_xor, Nat.testBit_two_pow]
  by_cases hi : 63 = i
  · subst hi
    rw [Nat.testBit_two_pow_add_eq, Nat.testBit_lt_two_pow h]
    rfl
  · by_cases hl : i < 63
    · rw [Nat.testBit_two_pow_add_gt hl]
      simp [hi]
    · have h1 : b.testBit i = false := Nat.testBit_lt_two_pow (Nat.lt_of_lt_of_le h (Nat.pow_le_pow_right (by decide) (by omega)))
      have h2 : (2 ^ 63 + b).testBit i = false := Nat.testBit_lt_two_pow (Nat.lt_of_lt_of_le (show 2 ^ 63 + b < 2 ^ 64 by omega) (Nat.pow_le_pow_right (by decide) (by omega)))
      rw [h1, h2]
      simp [hi]
def negB (b : Nat) : Nat := Op.negFloat .f64 b
theorem negB_is {b : Nat} (h : b < 9223372036854775808) : negB b = 9223372036854775808 + b := xor_sign h
theorem read_neg {b : Nat} (h : b < 9223372036854775808) : Ieee.double.read (negB b) = (Ieee.double.read b).opposite := by
  rw [negB_is h]
  have e3 : Ieee.double.signWeight = 9223372036854775808 := rfl
  unfold Format.read
  simp only
  rw [e3]
  have d1 : (9223372036854775808 + b) / 9223372036854775808 % 2 = 1 := by omega
  have d2 : (9223372036854775808 + b) % 9223372036854775808 = b := by omega
  have d3 : b / 9223372036854775808 % 2 = 0 := by omega
  have d4 : b % 9223372036854775808 = b := by omega
  rw [d1, d2, d3, d4]
  split
  · rfl
  · split
    · rfl
    · split <;> rfl
theorem key_neg {b : Nat} (h : b < 9223372036854775808) (hn : nanB b = false) : nanB (negB b) = false ∧ keyB (negB b) = - keyB b := by
  unfold nanB keyB at *
  rw [read_neg h]
  cases hd : Ieee.double.read b with
  | nan s f => rw [hd] at hn; simp [Datum.isNaN] at hn
  | infinity s =>
    refine ⟨rfl, ?_⟩
    show keyD (.infinity !s) = - keyD (.infinity s)
    rw [keyD_inf, keyD_inf]
    cases s <;> simp
  | number s m e =>
    refine ⟨rfl, ?_⟩
    show keyD (.number (!s) m e) = - keyD (.number s m e)
    rw [keyD_number, keyD_number]
    unfold signed
    cases s <;> simp
/-- A greater number divided by the same one is greater. -/
theorem quo_less {a b r : Nat} (hab : a < b) (hb : b ≤ 5000) (h0 : r ≠ 0) (h1 : r ≤ 5000) {x y : Nat} (hx : Ieee.double.div (floatOfInt .f64 (a : Int)) (floatOfInt .f64 (r : Int)) = some x) (hy : Ieee.double.div (floatOfInt .f64 (b : Int)) (floatOfInt .f64 (r : Int)) = some y) : keyB x < keyB y := by
  obtain ⟨w, K, w1, w2, w3, w4, w5⟩ := quo_key (a := a) (by omega) h0 h1
  obtain ⟨w', K', v1, v2, v3, v4, v5⟩ := quo_key (a := b) hb h0 h1
  rw [hx] at w1
  rw [hy] at v1
  cases w1
  cases v1
  rw [w3, v3]
  have hU := unit_slack
  have hS : 0 < 2 ^ slackE := Nat.two_pow_pos _
  generalize 2 ^ unitE = U at *
  generalize 2 ^ slackE = S at *
  have hb' : (a + 1) * U ≤ b * U := Nat.mul_le_mul_right _ hab
  rw [Nat.add_mul, Nat.one_mul] at hb'
  have : K * r < K' * r := by omega
  have := Nat.lt_of_mul_lt_mul_right this
  omega
end Go.Proofs.Ytplkglepbedhoaa
