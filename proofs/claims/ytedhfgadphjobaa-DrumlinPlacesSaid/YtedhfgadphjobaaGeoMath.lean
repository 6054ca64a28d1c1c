/- Plain facts on how a disk is parted: no program is spoken of. -/
import Derived.Below
namespace Go.Proofs.Ytedhfgadphjobaa
open Go.RowKit

def bnd (s g i : Int) : Prop := 8 ≤ s ∧ s ≤ 200 ∧ 1 ≤ g ∧ g ≤ 32 ∧ 2 ≤ i ∧ i ≤ 200
instance bndDec (s g i : Int) : Decidable (bnd s g i) := by unfold bnd; exact inferInstance
theorem bnd_dec (s g i : Int) : bnd s g i ∨ ¬ bnd s g i := Classical.em _
def upI (n k : Int) : Int := (n + k - 1) / k
def chunksI (i : Int) : Int := (i + 9) / 10
def tablesI (s : Int) : Int := (s + 14) / 15
def xI (g i : Int) : Int := upI (chunksI i) (8 * g)
def mostI (s g i : Int) : Int := if s - 6 - 2 * xI g i < 0 then 0 else (s - 6 - 2 * xI g i) / 2
def roomI (s g i : Int) : Int := mostI s g i * (8 * g)
def regI (s i : Int) : Int := 1 + chunksI i + tablesI s
def logI (s i : Int) : Int := 1 + 2 * regI s i
def sectorsI (s g i : Int) : Int := logI s i + s * g * 9

theorem upI_bd (n k : Int) (h0 : 0 ≤ n) (hk : 1 ≤ k) : 0 ≤ upI n k ∧ upI n k ≤ n ∧ (n ≤ upI n k * k ∧ upI n k * k < n + k) := by
  unfold upI
  have h1 : k * ((n + k - 1) / k) + (n + k - 1) % k = n + k - 1 := Int.mul_ediv_add_emod ..
  have h2 := Int.emod_nonneg (n + k - 1) (show k ≠ 0 by omega)
  have h3 := Int.emod_lt_of_pos (n + k - 1) (show 0 < k by omega)
  have h4 : 0 ≤ (n + k - 1) / k := Int.ediv_nonneg (by omega) (by omega)
  rw [Int.mul_comm k] at h1
  refine ⟨h4, ?_, by omega, by omega⟩
  by_cases hn : n = 0
  · subst hn
    have : (0 + k - 1) / k = 0 := Int.ediv_eq_zero_of_lt (by omega) (by omega)
    omega
  · have h5 : (n + k - 1) / k * 1 ≤ (n + k - 1) / k * k := Int.mul_le_mul_of_nonneg_left (by omega) h4
    rw [Int.mul_one] at h5
    by_cases hq : (n + k - 1) / k ≤ n
    · exact hq
    · exfalso
      have h6 : (n + 1) * k ≤ (n + k - 1) / k * k := Int.mul_le_mul_of_nonneg_right (by omega) (by omega)
      have h7 : (n + 1) * k = n * k + k := by rw [Int.add_mul, Int.one_mul]
      have h8 : n * 1 ≤ n * k := Int.mul_le_mul_of_nonneg_left (by omega) (by omega)
      rw [Int.mul_one] at h8
      omega
theorem upI_end {n k j : Int} (hk : 1 ≤ k) (h1 : n ≤ j * k) (h2 : j = 0 ∨ (j - 1) * k < n) (h0 : 0 ≤ n) : upI n k = j := by
  obtain ⟨a1, a2, a3, a4⟩ := upI_bd n k h0 hk
  generalize upI n k = u at *
  rcases Int.lt_trichotomy u j with h | h | h
  · exfalso
    rcases h2 with h2 | h2
    · omega
    · have : u * k ≤ (j - 1) * k := Int.mul_le_mul_of_nonneg_right (by omega) (by omega)
      omega
  · exact h
  · exfalso
    have : (j + 1) * k ≤ u * k := Int.mul_le_mul_of_nonneg_right (by omega) (by omega)
    rw [Int.add_mul, Int.one_mul] at this
    omega
theorem chunks_bd {s g i : Int} (h : bnd s g i) : 1 ≤ chunksI i ∧ chunksI i ≤ 20 := by unfold bnd at h; unfold chunksI; omega
theorem tables_bd {s g i : Int} (h : bnd s g i) : 1 ≤ tablesI s ∧ tablesI s ≤ 14 := by unfold bnd at h; unfold tablesI; omega
theorem xI_bd {s g i : Int} (h : bnd s g i) : 1 ≤ xI g i ∧ xI g i ≤ 3 := by
  have hc := chunks_bd h
  unfold bnd at h
  have hu := upI_bd (chunksI i) (8 * g) (by omega) (by omega)
  unfold xI
  obtain ⟨h1, h2, h3, h4⟩ := hu
  generalize upI (chunksI i) (8 * g) = x at *
  generalize chunksI i = c at *
  have e : x * (8 * g) = 8 * (x * g) := by rw [← Int.mul_assoc, Int.mul_comm x 8, Int.mul_assoc]
  rw [e] at h3 h4
  constructor
  · rcases Int.lt_or_le 0 x with hx | hx
    · omega
    · have : x = 0 := by omega
      subst this
      simp at h3
      omega
  · rcases Int.lt_or_le 3 x with hx | hx
    · exfalso
      have : 4 * g ≤ x * g := Int.mul_le_mul_of_nonneg_right (by omega) (by omega)
      have : 4 * 1 ≤ 4 * g := by omega
      have e2 : x * g = (x - 1) * g + g := by rw [Int.sub_mul, Int.one_mul]; omega
      have : 3 * g ≤ (x - 1) * g := Int.mul_le_mul_of_nonneg_right (by omega) (by omega)
      omega
    · exact hx
theorem mostI_bd {s g i : Int} (h : bnd s g i) : 0 ≤ mostI s g i ∧ 2 * mostI s g i ≤ s - 6 ∧ mostI s g i ≤ 96 := by
  have hx := xI_bd h
  unfold bnd at h
  unfold mostI
  split <;> omega
theorem room_bd {s g i : Int} (h : bnd s g i) : 0 ≤ roomI s g i ∧ roomI s g i ≤ 24576 := by
  have hm := mostI_bd h
  unfold bnd at h
  unfold roomI
  constructor
  · exact Int.mul_nonneg (by omega) (by omega)
  · have h1 : mostI s g i * (8 * g) ≤ 96 * (8 * g) := Int.mul_le_mul_of_nonneg_right (by omega) (by omega)
    omega
/-- may it be? -/
def mayB (s g i : Int) : Bool := decide (bnd s g i ∧ 8 ≤ roomI s g i)
theorem mayB_yes {s g i : Int} (h : mayB s g i = true) : bnd s g i ∧ 8 ≤ roomI s g i := of_decide_eq_true h
theorem mayB_mk {s g i : Int} (h : bnd s g i) (k : 8 ≤ roomI s g i) : mayB s g i = true := decide_eq_true ⟨h, k⟩
theorem mayB_no {s g i : Int} (h : ¬ bnd s g i) : mayB s g i = false := decide_eq_false fun k => h k.1
theorem mayB_no2 {s g i : Int} (h : ¬ 8 ≤ roomI s g i) : mayB s g i = false := decide_eq_false fun k => h k.2
theorem mayB_room {s g i : Int} (h : bnd s g i) : mayB s g i = decide (8 ≤ roomI s g i) := by
  unfold mayB; rw [decide_eq_decide]; exact ⟨fun k => k.2, fun k => ⟨h, k⟩⟩
theorem reg_bd {s g i : Int} (h : bnd s g i) : 3 ≤ regI s i ∧ regI s i ≤ 35 := by
  have h1 := chunks_bd h; have h2 := tables_bd h; unfold regI; omega
theorem log_bd {s g i : Int} (h : bnd s g i) : 7 ≤ logI s i ∧ logI s i ≤ 71 := by
  have h1 := reg_bd h; unfold logI; omega
theorem segs_bd {s g i : Int} (h : bnd s g i) : 8 ≤ s * g ∧ s * g ≤ 6400 := by
  unfold bnd at h
  have h1 : 8 * g ≤ s * g := Int.mul_le_mul_of_nonneg_right (by omega) (by omega)
  have h2 : s * g ≤ s * 32 := Int.mul_le_mul_of_nonneg_left (by omega) (by omega)
  omega
theorem sectors_bd {s g i : Int} (h : bnd s g i) : 79 ≤ sectorsI s g i ∧ sectorsI s g i ≤ 57671 := by
  have h1 := log_bd h; have h2 := segs_bd h; unfold sectorsI; omega

theorem upI_mono {n n' k k' : Int} (h0 : 0 ≤ n') (h1 : n' ≤ n) (hk : 1 ≤ k) (h2 : k ≤ k') : upI n' k' ≤ upI n k := by
  obtain ⟨a1, a2, a3, a4⟩ := upI_bd n k (by omega) hk
  obtain ⟨b1, b2, b3, b4⟩ := upI_bd n' k' h0 (by omega)
  generalize upI n k = u at *
  generalize upI n' k' = v at *
  rcases Int.lt_or_le u v with h | h
  · exfalso
    have e1 : u * k ≤ u * k' := Int.mul_le_mul_of_nonneg_left h2 a1
    have e2 : (u + 1) * k' ≤ v * k' := Int.mul_le_mul_of_nonneg_right (by omega) (by omega)
    rw [Int.add_mul, Int.one_mul] at e2
    omega
  · exact h
theorem most_mono {s g i s' g' i' : Int} (h : bnd s g i) (hs : s ≤ s') (hg : g ≤ g') (hi : i' ≤ i) (h' : bnd s' g' i') : mostI s g i ≤ mostI s' g' i' := by
  have hx : xI g' i' ≤ xI g i := by
    unfold xI
    have hc' := chunks_bd h'
    refine upI_mono (by omega) ?_ ?_ ?_
    · unfold chunksI; omega
    · unfold bnd at h; omega
    · omega
  have hb := xI_bd h
  have hb' := xI_bd h'
  unfold mostI
  split <;> split <;> omega
theorem room_mono {s g i s' g' i' : Int} (h : bnd s g i) (hs : s ≤ s') (hg : g ≤ g') (hi : i' ≤ i) (h' : bnd s' g' i') : roomI s g i ≤ roomI s' g' i' := by
  have h1 := most_mono h hs hg hi h'
  have h2 := mostI_bd h
  have h3 := mostI_bd h'
  unfold bnd at h h'
  unfold roomI
  have e1 : mostI s g i * (8 * g) ≤ mostI s g i * (8 * g') := Int.mul_le_mul_of_nonneg_left (by omega) (by omega)
  have e2 : mostI s g i * (8 * g') ≤ mostI s' g' i' * (8 * g') := Int.mul_le_mul_of_nonneg_right h1 (by omega)
  omega
end Go.Proofs.Ytedhfgadphjobaa
