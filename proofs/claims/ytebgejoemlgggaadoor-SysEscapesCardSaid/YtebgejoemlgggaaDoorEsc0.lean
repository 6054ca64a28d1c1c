/- Bytes in a text, escaped and read back: plain lists. No run of the model. -/
import Derived.Lib.SplitLaws
namespace Go.Proofs.YtebgejoemlgggaaDoor
set_option linter.unusedVariables false
set_option linter.unusedSimpArgs false
set_option maxRecDepth 100000

abbrev Bx := List UInt8
/-- The bytes as numbers, as memory has them. -/
def nb (l : Bx) : List Nat := l.map (·.toNat)
theorem nb_length (l : Bx) : (nb l).length = l.length := List.length_map ..
theorem nb_append (a b : Bx) : nb (a ++ b) = nb a ++ nb b := List.map_append
theorem nb_lt (l : Bx) : ∀ x ∈ nb l, x < 256 := by
  intro x hx
  obtain ⟨c, _, rfl⟩ := List.mem_map.1 hx
  exact c.toNat_lt
theorem nb_inj {a b : Bx} (h : nb a = nb b) : a = b := (List.map_inj_right (f := UInt8.toNat) (fun x y => UInt8.toNat_inj.1)).1 h
theorem nb_of {L : List Nat} (h : ∀ x ∈ L, x < 256) : ∃ l, nb l = L := by
  refine ⟨L.map UInt8.ofNat, ?_⟩
  unfold nb
  rw [List.map_map]
  conv => rhs; rw [← List.map_id L]
  refine List.map_congr_left fun x hx => ?_
  show (UInt8.ofNat x).toNat = x
  rw [UInt8.toNat_ofNat']
  exact Nat.mod_eq_of_lt (h x hx)
def selfN (n : Nat) : Bool := (decide (97 ≤ n) && decide (n ≤ 122)) || (decide (65 ≤ n) && decide (n ≤ 90)) || (decide (48 ≤ n) && decide (n ≤ 57)) || n == 46 || n == 47 || n == 95 || n == 45
def digN (n : Nat) : Nat := if n < 10 then 48 + n else 55 + n
/-- A digit's value; 255: it is none. -/
def valN (n : Nat) : Nat := if 48 ≤ n ∧ n ≤ 57 then n - 48 else if 65 ≤ n ∧ n ≤ 70 then n - 55 else 255
def hexN (a b : Nat) : Nat := (valN a * 16) % 256 ||| valN b
def esc1 (c : UInt8) : Bx := if selfN c.toNat = true then [c] else [37, UInt8.ofNat (digN (c.toNat / 16)), UInt8.ofNat (digN (c.toNat % 16))]
def escF (l : Bx) : Bx := l.flatMap esc1
def escL (l : Bx) : Bx := if l = [] then [37] else escF l
theorem escF_cons (c : UInt8) (l : Bx) : escF (c :: l) = esc1 c ++ escF l := rfl
theorem escF_append (a b : Bx) : escF (a ++ b) = escF a ++ escF b := List.flatMap_append
theorem esc1_ne (c : UInt8) : esc1 c ≠ [] := by unfold esc1; split <;> simp
theorem escF_ne {l : Bx} (h : l ≠ []) : escF l ≠ [] := by
  cases l with
  | nil => exact absurd rfl h
  | cons c l => rw [escF_cons]; intro e; exact esc1_ne c (List.append_eq_nil_iff.1 e).1
theorem escF_length (l : Bx) : l.length ≤ (escF l).length ∧ (escF l).length ≤ 3 * l.length := by
  induction l with
  | nil => exact ⟨Nat.le_refl _, Nat.le_refl _⟩
  | cons c l ih =>
    rw [escF_cons, List.length_append, List.length_cons]
    have : 1 ≤ (esc1 c).length ∧ (esc1 c).length ≤ 3 := by unfold esc1; split <;> simp
    omega
theorem escL_length (l : Bx) : 1 ≤ (escL l).length ∧ (escL l).length ≤ 3 * l.length + 1 := by
  unfold escL
  by_cases h : l = []
  · rw [if_pos h]; simp
  · rw [if_neg h]
    have := escF_length l
    have := List.length_pos_iff.2 h
    omega
/-- Read back, of any text. -/
def unP : Bx → Bx
  | c :: d :: e :: r => if c = 37 then UInt8.ofNat (hexN d.toNat e.toNat) :: unP r else c :: unP (d :: e :: r)
  | c :: r => c :: unP r
  | [] => []
theorem unP_self {c : UInt8} (h : c ≠ 37) (r : Bx) : unP (c :: r) = c :: unP r := by
  match r with
  | [] => rfl
  | [d] => rfl
  | d :: e :: r => rw [unP, if_neg h]
theorem unP_hex (d e : UInt8) (r : Bx) : unP (37 :: d :: e :: r) = UInt8.ofNat (hexN d.toNat e.toNat) :: unP r := by rw [unP, if_pos rfl]
theorem unP_short {c : UInt8} {r : Bx} (h : r.length < 2) : unP (c :: r) = c :: unP r := by
  match r, h with
  | [], _ => rfl
  | [d], _ => rfl
theorem self_37 : selfN 37 = false := by decide
theorem self_32 : selfN 32 = false := by decide
theorem dig_val : ∀ n, n < 256 → selfN n = false → hexN (digN (n / 16) % 256) (digN (n % 16) % 256) = n := by decide
theorem val_dig : ∀ a, a < 256 → valN a ≠ 255 → valN a < 16 ∧ digN (valN a) = a := by decide
theorem dig_lt (n : Nat) (h : n < 16) : digN n < 256 := by unfold digN; split <;> omega
theorem dig_ok : ∀ n, n < 16 → selfN (digN n) = true ∧ valN (digN n) = n ∧ digN n < 256 := by decide
theorem hexN_val : ∀ a, a < 16 → ∀ b, b < 16 → (a * 16) % 256 ||| b = 16 * a + b := by decide
theorem unP_esc1 (c : UInt8) (X : Bx) : unP (esc1 c ++ X) = c :: unP X := by
  unfold esc1
  by_cases h : selfN c.toNat = true
  · rw [if_pos h]
    refine unP_self (fun e => ?_) X
    rw [e] at h
    exact absurd h (by decide)
  · rw [if_neg h]
    show unP (37 :: _ :: _ :: X) = _
    rw [unP_hex]
    congr 1
    have h2 := dig_val c.toNat c.toNat_lt (by simpa using h)
    rw [UInt8.toNat_ofNat', UInt8.toNat_ofNat', h2, UInt8.ofNat_toNat]
theorem unP_escF : ∀ b : Bx, unP (escF b) = b
  | [] => rfl
  | c :: b => by rw [escF_cons, unP_esc1, unP_escF b]
/-- Unescape: what a text stands for. -/
def unE (s : Bx) : Option Bx := if s = [37] then some [] else if escL (unP s) = s then some (unP s) else none
theorem escF_37 {l : Bx} : escF l ≠ [37] := by
  cases l with
  | nil => intro e; cases e
  | cons c l =>
    rw [escF_cons]
    unfold esc1
    by_cases h : selfN c.toNat = true
    · rw [if_pos h]
      intro e
      have e2 : c = 37 := by simpa using (List.cons.inj e).1
      rw [e2] at h
      exact absurd h (by decide)
    · rw [if_neg h]
      intro e
      have := congrArg List.length e
      simp at this
theorem unE_iff {s b : Bx} : unE s = some b ↔ escL b = s := by
  unfold unE
  constructor
  · intro h
    by_cases h1 : s = [37]
    · rw [if_pos h1] at h
      rw [← Option.some.inj h, h1]; rfl
    · rw [if_neg h1] at h
      by_cases h2 : escL (unP s) = s
      · rw [if_pos h2] at h
        rw [← Option.some.inj h, h2]
      · rw [if_neg h2] at h; cases h
  · intro h
    by_cases hb : b = []
    · subst hb
      have : s = [37] := by rw [← h]; rfl
      rw [if_pos this]
    · have h3 : escL b = escF b := by unfold escL; rw [if_neg hb]
      rw [h3] at h
      rw [if_neg (by rw [← h]; exact escF_37), ← h, unP_escF, h3, if_pos rfl]
theorem unE_none {s : Bx} : unE s = none ↔ ∀ b, escL b ≠ s := by
  constructor
  · intro h b hb
    rw [unE_iff.2 hb] at h
    cases h
  · intro h
    cases hu : unE s with
    | none => rfl
    | some b => exact absurd (unE_iff.1 hu) (h b)
theorem escL_inj {a b : Bx} (h : escL a = escL b) : a = b := by
  have h1 := unE_iff.2 (rfl : escL b = escL b)
  rw [unE_iff.2 h] at h1
  exact Option.some.inj h1
/-- No blank in what is escaped. -/
theorem esc1_blank (c : UInt8) : (32 : UInt8) ∉ esc1 c := by
  unfold esc1
  split
  · rename_i h
    intro hm
    have : c = 32 := (List.mem_singleton.1 hm).symm
    rw [this] at h
    exact absurd h (by decide)
  · intro hm
    have hlt := c.toNat_lt
    have key : ∀ n, n < 16 → UInt8.ofNat (digN n) ≠ 32 := by decide
    rcases List.mem_cons.1 hm with hm | hm
    · exact absurd hm (by decide)
    · rcases List.mem_cons.1 hm with hm | hm
      · exact key _ (by omega) hm.symm
      · exact key _ (by omega) (List.mem_singleton.1 hm).symm
theorem escL_blank (l : Bx) : (32 : UInt8) ∉ escL l := by
  unfold escL
  split
  · decide
  · unfold escF
    intro h
    obtain ⟨c, _, hc⟩ := List.mem_flatMap.1 h
    exact esc1_blank c hc
/-- The same beginning. -/
theorem esc_cancel : ∀ (a b X : Bx), escF a ++ X = escF b → ∃ b', X = escF b'
  | [], b, X, h => ⟨b, h⟩
  | c :: a, b, X, h => by
    cases b with
    | nil =>
      exfalso
      rw [escF_cons] at h
      have := congrArg List.length h
      have h1 := List.length_pos_iff.2 (esc1_ne c)
      have e0 : (escF []).length = 0 := rfl
      rw [List.length_append, List.length_append, e0] at this
      omega
    | cons d b =>
      have h2 := congrArg unP h
      rw [escF_cons, escF_cons, List.append_assoc, unP_esc1, unP_esc1] at h2
      obtain ⟨rfl, _⟩ := List.cons.inj h2
      rw [escF_cons, escF_cons, List.append_assoc] at h
      exact esc_cancel a b X (List.append_cancel_left h)
end Go.Proofs.YtebgejoemlgggaaDoor
