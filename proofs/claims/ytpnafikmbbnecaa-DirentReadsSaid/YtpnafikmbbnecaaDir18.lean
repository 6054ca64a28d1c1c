/- A block of any bytes, read: its entries, byte by byte. -/
import Derived.Test.YtpnafikmbbnecaaDir14
namespace Go.Proofs.Ytpnafikmbbnecaa
open Go.RowKit Go.Sort
set_option linter.unusedVariables false
set_option linter.unusedSimpArgs false
set_option maxRecDepth 100000

def entP (P : List Nat) : Ent := ((le (P.take 2) : Nat), strOfNums (((P.drop 3).map fun n : Nat => (n : Int)).take (min (P.getD 2 0) 29)))
theorem read_piece {z : Ent} (hz : z.2.data.toList.length ≤ 29) {P : List Nat} (hP : P.length = 32) (R : List Nat) :
    (PS.rd (P ++ R)).numI 2 z.1 = (entP P).1 ∧ nameE (.rd (P ++ R)) z.1 z.2.data.toList = (entP P).2 ∧ stE (.rd (P ++ R)) z.1 z.2.data.toList = .rd R := by
  obtain ⟨a, b, n, N, rfl⟩ : ∃ a b n N, P = a :: b :: n :: N := by
    match P, hP with
    | a :: b :: n :: N, _ => exact ⟨a, b, n, N, rfl⟩
  have hN : N.length = 29 := by simpa using hP
  have hn : PS.next (.rd (a :: b :: n :: N ++ R)) 2 (u64of z.1) = .rd (n :: (N ++ R)) := by
    rw [nextRd _ (by simp)]
    rfl
  have hs : sizeE (.rd (a :: b :: n :: N ++ R)) z.1 z.2.data.toList = (n : Int) := by
    unfold sizeE
    rw [hn]
    show ((if 1 ≤ (n :: (N ++ R)).length then le ((n :: (N ++ R)).take 1) else 0 : Nat) : Int) = _
    rw [if_pos (by simp)]
    simp [le]
  have hT : stT (.rd (a :: b :: n :: N ++ R)) z.1 z.2.data.toList = .rd (N ++ R) := by
    unfold stT
    rw [hn, nextRd _ (by simp)]
    rfl
  refine ⟨?_, ?_, ?_⟩
  · show ((if 2 ≤ (a :: b :: n :: N ++ R).length then le ((a :: b :: n :: N ++ R).take 2) else 0 : Nat) : Int) = _
    rw [if_pos (by simp)]
    rfl
  · unfold nameE outN
    rw [hT, stO_ones N _ R (by rw [nameF_length hz, hN]) (fun f hf => by
      unfold nameF at hf
      obtain ⟨b, _, rfl⟩ := List.mem_map.1 hf
      rfl), hs]
    have e : (min (n : Int) 29).toNat = min n 29 := by omega
    rw [e]
    rfl
  · rw [stE_is, stS_drop _ _ (by rw [entF_widths z hz, List.length_append, hP]; omega), entF_widths z hz, List.drop_left' hP]
theorem read_pieces : ∀ (Ps : List (List Nat)) (Z : List Ent) (R : List Nat), Ps.length = Z.length → (∀ P ∈ Ps, P.length = 32) → (∀ z ∈ Z, z.2.data.toList.length ≤ 29) → outB (.rd (Ps.flatten ++ R)) Z = Ps.map entP
  | [], [], _, _, _, _ => rfl
  | [], _ :: _, _, h, _, _ => by simp at h
  | _ :: _, [], _, h, _, _ => by simp at h
  | P :: Ps, z :: Z, R, h, hp, hz => by
    obtain ⟨h1, h2, h3⟩ := read_piece (hz z (by simp)) (hp P (by simp)) (Ps.flatten ++ R)
    rw [List.flatten_cons, List.append_assoc]
    show ((PS.rd (P ++ (Ps.flatten ++ R))).numI 2 z.1, nameE (.rd (P ++ (Ps.flatten ++ R))) z.1 z.2.data.toList) :: outB (stE (.rd (P ++ (Ps.flatten ++ R))) z.1 z.2.data.toList) Z = _
    rw [h1, h2, h3, read_pieces Ps Z R (by simpa using h) (fun Q hQ => hp Q (by simp [hQ])) fun y hy => hz y (by simp [hy])]
    rfl
def pcs (s : List Nat) (j : Nat) : List Nat := (s.drop (32 * j)).take 32
theorem rdB_pcs {s : List Nat} (hs : s.length = 128) : rdB s = (List.range 4).map fun j => entP (pcs s j) := by
  have e : s = ([pcs s 0, pcs s 1, pcs s 2, pcs s 3] : List (List Nat)).flatten ++ [] := by
    have h0 := List.take_append_drop 32 s
    have h1 := List.take_append_drop 32 (s.drop 32)
    have h2 := List.take_append_drop 32 (s.drop 64)
    have h3 : (s.drop 96).take 32 = s.drop 96 := List.take_of_length_le (by rw [List.length_drop]; omega)
    rw [List.drop_drop] at h1 h2
    simp only [List.flatten_cons, List.flatten_nil, List.append_nil]
    show s = s.take 32 ++ ((s.drop 32).take 32 ++ ((s.drop 64).take 32 ++ (s.drop 96).take 32))
    rw [h3, h2, h1, h0]
  have h := read_pieces [pcs s 0, pcs s 1, pcs s 2, pcs s 3] zeroE [] rfl (by
    intro P hP
    simp only [List.mem_cons, List.not_mem_nil, or_false] at hP
    unfold pcs at hP
    rcases hP with rfl | rfl | rfl | rfl <;> (rw [List.length_take, List.length_drop]; omega)) fun z hz => (zeroE_ok z hz).2
  rw [← e] at h
  unfold rdB
  rw [h]
  rfl
theorem drop_getD {s : List Nat} {i : Nat} (h : i < s.length) : s.drop i = s.getD i 0 :: s.drop (i + 1) := by
  rw [List.drop_eq_getElem_cons h, List.getD_eq_getElem?_getD, List.getElem?_eq_getElem h]
  rfl
theorem pcs_is {s : List Nat} (hs : s.length = 128) {j : Nat} (hj : j < 4) : pcs s j = s.getD (32 * j) 0 :: s.getD (32 * j + 1) 0 :: s.getD (32 * j + 2) 0 :: (s.drop (32 * j + 3)).take 29 := by
  have e0 := drop_getD (s := s) (i := 32 * j) (by omega)
  have e1 := drop_getD (s := s) (i := 32 * j + 1) (by omega)
  have e2 := drop_getD (s := s) (i := 32 * j + 2) (by omega)
  unfold pcs
  rw [e0, e1, e2]
  rfl
theorem rdB_at {s : List Nat} (hs : s.length = 128) {j : Nat} (hj : j < 4) : (rdB s)[j]? = some (entP (pcs s j)) := by
  rw [rdB_pcs hs, List.getElem?_map, List.getElem?_range hj]
  rfl
def entD (s : List Nat) (j : Nat) : Ent := (((s.getD (32 * j) 0 : Nat) : Int) + 256 * ((s.getD (32 * j + 1) 0 : Nat) : Int), strOfNums (((s.drop (32 * j + 3)).take (s.getD (32 * j + 2) 0)).map fun n : Nat => (n : Int)))
theorem rdB_get {s : List Nat} (hs : s.length = 128) {j : Nat} (hj : j < 4) (hn : s.getD (32 * j + 2) 0 ≤ 29) : (rdB s)[j]? = some (entD s j) := by
  rw [rdB_at hs hj, pcs_is hs hj]
  refine congrArg some ?_
  unfold entP entD
  refine Prod.ext ?_ ?_
  · show ((le [s.getD (32 * j) 0, s.getD (32 * j + 1) 0] : Nat) : Int) = _
    simp only [le]
    omega
  · show strOfNums ((((s.drop (32 * j + 3)).take 29).map _).take (min (s.getD (32 * j + 2) 0) 29)) = strOfNums _
    rw [← List.map_take, List.take_take, Nat.min_eq_left hn, Nat.min_eq_left hn]
theorem readD_long {s : List Nat} (hs : s.length = 128) {j : Nat} (hj : j < 4) (hn : 29 < s.getD (32 * j + 2) 0) : readD s = (zeroE, 21) := by
  unfold readD
  refine if_neg fun h => ?_
  have h1 : (rdB s).all mayD = true := by
    cases ha : (rdB s).all mayD with
    | true => rfl
    | false =>
      have : writeD (rdB s) = (noughts, 1) := if_neg (by rw [ha]; decide)
      rw [this] at h
      exact absurd h.1 (by decide)
  have hm := List.all_eq_true.1 h1 _ (List.mem_of_getElem? (rdB_at hs hj))
  have h2 := (mayD_facts hm).2.2
  rw [pcs_is hs hj] at h2
  have h3 : (entP (s.getD (32 * j) 0 :: s.getD (32 * j + 1) 0 :: s.getD (32 * j + 2) 0 :: (s.drop (32 * j + 3)).take 29)).2.data.toList.length = 29 := by
    show (strOfNums ((((s.drop (32 * j + 3)).take 29).map _).take (min (s.getD (32 * j + 2) 0) 29))).data.toList.length = 29
    rw [strOfNums_data, List.length_map, List.length_take, List.length_map, List.length_take, List.length_drop]
    omega
  omega
theorem readD_yes {s : List Nat} : (readD s).2 = 0 ∨ readD s = (zeroE, 21) := by unfold readD; split <;> simp
end Go.Proofs.Ytpnafikmbbnecaa
