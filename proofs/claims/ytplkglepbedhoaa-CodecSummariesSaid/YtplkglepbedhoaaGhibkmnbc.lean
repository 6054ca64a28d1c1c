/- One byte that is another one changes the sum: plainly; no program is spoken of but in the names of the lists. -/
import Derived.Test.YtplkglepbedhoaaGoefikmnl
namespace Go.Proofs.Ytplkglepbedhoaa
set_option linter.unusedVariables false
set_option maxRecDepth 100000

theorem xor_back (a b : Nat) : (a ^^^ b) ^^^ b = a := by rw [Nat.xor_assoc, Nat.xor_self, Nat.xor_zero]
theorem xor_right_inj {a b c : Nat} (h : a ^^^ c = b ^^^ c) : a = b := by rw [← xor_back a c, h, xor_back]
theorem xor_left_inj {a b c : Nat} (h : c ^^^ a = c ^^^ b) : a = b := xor_right_inj (c := c) (by rw [Nat.xor_comm a, Nat.xor_comm b]; exact h)
theorem poly_top {c : Nat} (h : c < 4294967296) : (c / 2 ^^^ 3988292384).testBit 31 = true := by
  rw [Nat.testBit_xor, Nat.testBit_lt_two_pow (x := c / 2) (by omega)]
  decide
theorem half_top {c : Nat} (h : c < 4294967296) : (c / 2).testBit 31 = false := Nat.testBit_lt_two_pow (by omega)
theorem crcBit_inj {c d : Nat} (hc : c < 4294967296) (hd : d < 4294967296) (h : crcBit c = crcBit d) : c = d := by
  unfold crcBit at h
  have tc := poly_top hc
  have td := poly_top hd
  have uc := half_top hc
  have ud := half_top hd
  split at h <;> split at h
  · have := xor_right_inj h
    omega
  · rw [h, ud] at tc; exact absurd tc (by decide)
  · rw [← h, uc] at td; exact absurd td (by decide)
  · omega
theorem crcBits_inj {c d : Nat} (hc : c < 4294967296) (hd : d < 4294967296) (k : Nat) (h : crcBits k c = crcBits k d) : c = d := by
  induction k with
  | zero => exact h
  | succ k ih => exact ih (crcBit_inj (crcBits_lt hc k) (crcBits_lt hd k) h)
theorem crcByte_inj {c d x : Nat} (hc : c < 4294967296) (hd : d < 4294967296) (hx : x < 256) (h : crcByte c x = crcByte d x) : c = d :=
  xor_right_inj (crcBits_inj (xor_lt32 hc (by omega)) (xor_lt32 hd (by omega)) 8 h)
theorem crcByte_inj' {c x y : Nat} (hc : c < 4294967296) (hx : x < 256) (hy : y < 256) (h : crcByte c x = crcByte c y) : x = y :=
  xor_left_inj (crcBits_inj (xor_lt32 hc (by omega)) (xor_lt32 hc (by omega)) 8 h)
theorem crcFold_inj (l : List Nat) (hb : Bytes l) : ∀ c d, c < 4294967296 → d < 4294967296 → l.foldl crcByte c = l.foldl crcByte d → c = d := by
  induction l with
  | nil => intro c d _ _ h; exact h
  | cons x l ih =>
    intro c d hc hd h
    have hx : x < 256 := hb x (by simp)
    exact crcByte_inj hc hd hx (ih (fun y hy => hb y (by simp [hy])) _ _ (crcByte_lt hc hx) (crcByte_lt hd hx) h)
theorem crc_mid {p q : List Nat} {x y : Nat} (hp : Bytes p) (hq : Bytes q) (hx : x < 256) (hy : y < 256) (h : crc (p ++ x :: q) = crc (p ++ y :: q)) : x = y := by
  have hc := crcRaw_lt p hp
  have e : ∀ z, crcRaw (p ++ z :: q) = q.foldl crcByte (crcByte (crcRaw p) z) := fun z => by simp [crcRaw]
  have hbz : ∀ z, z < 256 → Bytes (p ++ z :: q) := fun z hz => hp.append (by
    intro a ha
    rcases List.mem_cons.1 ha with rfl | ha
    · exact hz
    · exact hq a ha)
  have h1 := crcRaw_lt _ (hbz x hx)
  have h2 := crcRaw_lt _ (hbz y hy)
  have h3 : crcRaw (p ++ x :: q) = crcRaw (p ++ y :: q) := by unfold crc at h; omega
  rw [e, e] at h3
  exact crcByte_inj' hc hx hy (crcFold_inj q hq _ _ (crcByte_lt hc hx) (crcByte_lt hc hy) h3)

theorem set_split (l : List Nat) (i v : Nat) (h : i < l.length) : l.set i v = l.take i ++ v :: l.drop (i + 1) := by
  rw [List.set_eq_take_append_cons_drop, if_pos h]

theorem Bytes.set {l : List Nat} (h : Bytes l) (i v : Nat) (hv : v < 256) : Bytes (l.set i v) := by
  intro x hx
  rcases List.mem_or_eq_of_mem_set hx with h1 | rfl
  · exact h x h1
  · exact hv

theorem sealL_turn {k k' : Nat} {b b' : List Nat} (hk : k < 256) (hbb : Bytes b) (hb : b.length ≤ 120) (hb' : b'.length ≤ 120) {i v : Nat} (hi : i < 128) (hv : v < 256) (h : sealL k' b' = (sealL k b).set i v) : (sealL k b).getD i 0 = v := by
  have hl := headL_length (kind := k) hb
  have hl' := headL_length (kind := k') hb'
  have hB := headL_bytes hk hbb hb
  have hs := sealL_length (kind := k) hb
  by_cases hlt : i < 124
  · have e : (sealL k b).set i v = (headL k b).set i v ++ low (crc (headL k b)) 4 := by unfold sealL; rw [List.set_append_left _ _ (by omega)]
    rw [e] at h
    have h' : headL k' b' ++ low (crc (headL k' b')) 4 = (headL k b).set i v ++ low (crc (headL k b)) 4 := h
    obtain ⟨h1, h2⟩ := List.append_inj h' (by rw [List.length_set, hl, hl'])
    rw [h1] at h2
    have h3 : crc ((headL k b).set i v) = crc (headL k b) := by
      have a1 := le_low (crc ((headL k b).set i v)) 4 (crc_lt _)
      have a2 := le_low (crc (headL k b)) 4 (crc_lt _)
      rw [h2] at a1
      have := crc_lt ((headL k b).set i v)
      have := crc_lt (headL k b)
      omega
    have h4 : headL k b = (headL k b).take i ++ (headL k b)[i]'(by omega) :: (headL k b).drop (i + 1) := by simp
    rw [set_split _ _ _ (by omega)] at h3
    have h5 : crc ((headL k b).take i ++ v :: (headL k b).drop (i + 1)) = crc ((headL k b).take i ++ (headL k b)[i]'(by omega) :: (headL k b).drop (i + 1)) := by rw [← h4]; exact h3
    have h6 := crc_mid (fun x hx => hB x (List.mem_of_mem_take hx)) (fun x hx => hB x (List.mem_of_mem_drop hx)) hv (hB _ (List.getElem_mem _)) h5
    rw [h6]
    unfold sealL
    rw [List.getD_eq_getElem?_getD, List.getElem?_append_left (by omega), List.getElem?_eq_getElem (by omega)]
    rfl
  · have e : headL k' b' = headL k b := by
      have := congrArg (List.take 124) h
      rw [List.take_set_of_le (by omega)] at this
      unfold sealL at this
      rw [List.take_append_of_le_length (by omega), List.take_append_of_le_length (by omega), List.take_of_length_le (by omega), List.take_of_length_le (by omega)] at this
      exact this
    have h1 : sealL k' b' = sealL k b := by unfold sealL; rw [e]
    rw [h1] at h
    have h2 : (sealL k b)[i]'(by omega) = ((sealL k b).set i v)[i]'(by rw [List.length_set]; omega) := List.getElem_of_eq h _
    rw [List.getElem_set_self] at h2
    rw [List.getD_eq_getElem?_getD, List.getElem?_eq_getElem (by omega), h2]
    rfl

theorem openB_turn {k : Nat} {b : List Nat} (hk : k < 256) (hbb : Bytes b) (hb : b.length ≤ 120) {i v : Nat} (hi : i < 128) (hv : v < 256) (hne : (sealL k b).getD i 0 ≠ v) : openB ((sealL k b).set i v) = false := by
  unfold openB
  apply decide_eq_false
  rintro ⟨_, h2, h3⟩
  exact hne (sealL_turn hk hbb hb h2 hi hv h3)
theorem set_same {l : List Nat} {i v : Nat} (h : l.getD i 0 = v) (hi : i < l.length) : l.set i v = l := by
  rw [List.getD_eq_getElem?_getD, List.getElem?_eq_getElem hi] at h
  subst h
  exact List.set_getElem_self hi
end Go.Proofs.Ytplkglepbedhoaa
