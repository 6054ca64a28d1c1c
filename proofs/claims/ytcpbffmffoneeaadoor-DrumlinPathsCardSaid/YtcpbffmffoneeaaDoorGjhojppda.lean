/- A block of entries, written as the document says: its bytes. -/
import Derived.Test.YtcpbffmffoneeaaDoorGihfkjogo
namespace Go.Proofs.YtcpbffmffoneeaaDoor
open Go.RowKit Go.Sort
set_option linter.unusedVariables false
set_option linter.unusedSimpArgs false
set_option maxRecDepth 100000

def bytesW (s : ByteArray) : List Nat := s.data.toList.map (·.toNat)
theorem bytesW_length (s : ByteArray) : (bytesW s).length = s.data.toList.length := by unfold bytesW; rw [List.length_map]
theorem bytesW_bytes (s : ByteArray) : Bytes (bytesW s) := by
  intro y hy
  unfold bytesW at hy
  obtain ⟨b, _, rfl⟩ := List.mem_map.1 hy
  have := UInt8.toNat_lt b
  omega
/-- An entry's bytes but for the zeros behind. -/
def headW (x : Ent) : List Nat := low x.1.toNat 2 ++ [x.2.data.toList.length] ++ bytesW x.2
theorem headW_length (x : Ent) : (headW x).length = 3 + x.2.data.toList.length := by
  unfold headW
  rw [List.length_append, List.length_append, low_length, bytesW_length]
  rfl
def pieceW (x : Ent) : List Nat := headW x ++ List.replicate (29 - x.2.data.toList.length) 0
theorem pieceW_length {x : Ent} (h : x.2.data.toList.length ≤ 29) : (pieceW x).length = 32 := by
  unfold pieceW
  rw [List.length_append, headW_length, List.length_replicate]
  omega
def textW (E : List Ent) : List Nat := E.flatMap pieceW
theorem textW_length : ∀ (E : List Ent), (∀ x ∈ E, x.2.data.toList.length ≤ 29) → (textW E).length = 32 * E.length
  | [], _ => rfl
  | x :: E, h => by
    unfold textW
    rw [List.flatMap_cons, List.length_append, pieceW_length (h x (by simp))]
    have := textW_length E fun y hy => h y (by simp [hy])
    unfold textW at this
    rw [this]
    simp
    omega
theorem textW_snoc (E : List Ent) (x : Ent) : textW (E ++ [x]) = textW E ++ pieceW x := by unfold textW; simp
theorem low_one {n : Nat} (h : n < 256) : low n 1 = [n] := by
  show [n % 256] = [n]
  rw [Nat.mod_eq_of_lt h]
theorem names_lows : ∀ (l : List UInt8), (l.map fun b => (⟨.u8, 1, (b.toNat : Int)⟩ : FldD)).flatMap (fun x => low (u64of x.z) x.width) = l.map (·.toNat)
  | [] => rfl
  | b :: l => by
    rw [List.map_cons, List.flatMap_cons, names_lows l]
    have := UInt8.toNat_lt b
    show low (u64of (b.toNat : Int)) 1 ++ _ = _
    rw [u64of_nat (by omega), low_one (by omega)]
    rfl
theorem lows_ent {x : Ent} (h : mayD x = true) : lowsU (entF x) = pieceW x := by
  obtain ⟨h1, h2, h3⟩ := mayD_facts h
  obtain ⟨z, s⟩ := x
  dsimp only at h1 h2 h3
  obtain ⟨n, rfl⟩ := Int.eq_ofNat_of_zero_le h1
  unfold lowsU entF nameF
  rw [List.flatMap_cons, List.flatMap_cons, names_lows]
  dsimp only
  rw [u64of_nat (by omega), u64of_nat (by omega), low_one (by omega)]
  unfold pieceW headW bytesW padS
  dsimp only
  rw [Int.toNat_natCast, List.map_append, List.map_replicate]
  simp only [List.append_assoc]
  rfl
theorem lows_blk : ∀ {E : List Ent}, E.all mayD = true → lowsU (blkF E) = textW E
  | [], _ => rfl
  | x :: E, h => by
    rw [List.all_cons, Bool.and_eq_true] at h
    have h2 := lows_blk h.2
    have h1 := lows_ent h.1
    unfold lowsU at h1 h2 ⊢
    unfold blkF textW at h2 ⊢
    rw [List.flatMap_cons, List.flatMap_append, List.flatMap_cons]
    exact congr (congrArg _ h1) h2
theorem writeD_text {E : List Ent} (hE : E.length = 4) (h : E.all mayD = true) : writeD E = (textW E, 0) := by
  unfold writeD
  rw [if_pos h, (blk_facts hE h).2.1, lows_blk h]
theorem textW_facts {E : List Ent} (hE : E.length = 4) (h : E.all mayD = true) : (textW E).length = 128 ∧ Bytes (textW E) ∧ fullL (textW E) = textW E := by
  obtain ⟨_, h2, h3, h4⟩ := blk_facts hE h
  have e := h2.trans (lows_blk h)
  rw [e] at h3 h4
  refine ⟨h3, h4, ?_⟩
  unfold fullL
  rw [List.take_of_length_le (by omega)]
  unfold pad
  rw [h3]
  simp
end Go.Proofs.YtcpbffmffoneeaaDoor
