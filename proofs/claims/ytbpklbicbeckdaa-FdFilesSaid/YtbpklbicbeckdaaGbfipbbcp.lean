/- A disk is made, its queue told, and written to, by their walks. -/
import Derived.Test.YtbpklbicbeckdaaGaphjmkec
import Derived.Laws.MakeOwn
namespace Go.Proofs.Ytbpklbicbeckdaa
open Go.RowKit Go.Sort
set_option linter.unusedVariables false
set_option maxRecDepth 100000

/-- A list of numbers that the call made. -/
def OwnsI (B : Nat) (w : World) (a : Option Addr) (l : List Int) : Prop := (l = [] ∨ ∃ b, a = some ⟨b, 0, none⟩ ∧ B ≤ b ∧ w.heap[b]? = some (.cells (l.map (Value.int .i64)).toArray 3 (0, 0)))

def newD (n : Nat) : DiskD := ⟨false, false, 0, List.replicate n noughts, [], 0⟩
theorem info_sec : (Try.prog.info? 41).map (fun i => (i.zero, i.size, i.bytes)) = some (some (.agg (cells noughts)), 128, 128) := by kernel_rfl
theorem run_make_rowN {P : Program} (t e : TypeId) (i : TypeInfo) (z : Value) (ht : P.underlying t = some (.slice e)) (hi : P.info? e = some i) (hz : i.zero = some z)
    (kl kc : IntKind) (n c : Nat) (hnc : n ≤ c) (hbytes : i.bytes * c ≤ 281474976710656) (h63 : c ≤ 9223372036854775807) (w : World) :
    (Instr.makeSlice t (.int kl (n : Int)) (.int kc (c : Int))).run P w = .ok (.slice (some ⟨w.heap.size, 0, none⟩) n c) (w.alloc (.cells (madeCells z.cells (c * i.size)) e)) := by
  have hb : (i.bytes : Int) * (c : Int) ≤ 281474976710656 := by
    have h : ((i.bytes * c : Nat) : Int) ≤ 281474976710656 := by omega
    rwa [Int.natCast_mul] at h
  have hr := run_make (P := P) w t e i z ht hi hz kl kc n c (by omega) (by omega) hb (by omega)
  simp only [Int.toNat_natCast] at hr
  exact hr

theorem made_noughts (n : Nat) : madeCells (cells noughts) (n * 128) = (secV (List.replicate n noughts)).toArray := by
  apply Array.ext_getElem?
  intro k
  have hl : (secV (List.replicate n noughts)).length = n * 128 := by
    have := flat_length (fun s => s.map byteV) 128 (List.replicate n noughts) (fun x hx => by rw [List.eq_of_mem_replicate hx]; rfl)
    rw [List.length_replicate] at this
    exact this
  have hall : ∀ u ∈ secV (List.replicate n noughts), u = byteV 0 := by
    intro u hu
    simp only [secV, List.mem_flatMap] at hu
    obtain ⟨s, hs, hu⟩ := hu
    rw [List.eq_of_mem_replicate hs] at hu
    simp only [noughts, List.map_replicate] at hu
    exact List.eq_of_mem_replicate hu
  by_cases hk : k < n * 128
  · have h1 : (secV (List.replicate n noughts)).toArray[k]? = some (byteV 0) := by
      rw [List.getElem?_toArray, List.getElem?_eq_getElem (by omega)]
      congr 1
      exact hall _ (List.getElem_mem _)
    rw [h1]
    unfold madeCells
    rw [Array.getElem?_map, Array.getElem?_range, if_pos hk]
    have hs : (cells noughts).size = 128 := rfl
    have hm : k % (cells noughts).size < (cells noughts).size := by rw [hs]; exact Nat.mod_lt _ (by decide)
    simp only [Option.map_some]
    rw [getElem!_pos (cells noughts) _ hm]
    congr 1
    have hz : ∀ u ∈ (cells noughts).toList, u = byteV 0 := by
      intro u hu
      have hu' : u ∈ noughts.map byteV := hu
      simp only [noughts, List.map_replicate] at hu'
      exact List.eq_of_mem_replicate hu'
    exact hz _ (by simp)
  · rw [Array.getElem?_eq_none (by rw [size_madeCells]; omega), Array.getElem?_eq_none (by simp; omega)]

theorem newD_ok {n : Nat} (h1 : 1 ≤ n) (h2 : n ≤ 65536) : (newD n).ok := by
  refine ⟨fun s hs => ?_, fun p hp => (by cases hp), ?_, ?_, Nat.zero_le _, Nat.zero_le _, Nat.zero_le _⟩
  · rw [List.eq_of_mem_replicate hs]
    exact ⟨rfl, by intro x hx; have := List.eq_of_mem_replicate hx; omega⟩
  · show 1 ≤ (List.replicate n noughts).length; simp; omega
  · show (List.replicate n noughts).length ≤ 65536; simp; omega

set_option maxHeartbeats 1600000 in
theorem dnew_is (n : Nat) (w : World) (h1 : 1 ≤ n) (h2 : n ≤ 65536) :
    Calls Try.prog 48 #[.int .i64 n] w fun e w' => ∃ g gs, e = .returned (.tuple #[.pointer (some ⟨g, 0, none⟩), .int .i64 0]) ∧ IsDisk w.heap.size w' g gs (.slice none 0 0) (newD n) ∧ Below w.heap.size w w' := by
  obtain ⟨i0, hi, hz0, hz1, hz2⟩ := info_parts info_sec
  have hmk := fun W => run_make_rowN (P := Try.prog) 39 41 i0 (.agg (cells noughts)) Try.underlying39 hi hz0 .i64 .i64 n n (Nat.le_refl _) (by rw [hz2]; omega) (by omega) W
  simp only [hz1, Value.cells, made_noughts] at hmk
  have hok := newD_ok h1 h2
  have HOK := Lib.hid hok
  clear hok hi hz0 hz1 hz2
  go_enter Try.func48, Try.ntmps48
  go_wp2
  go_ret2
  refine ⟨w.heap.size + 1, w.heap.size, rfl, ⟨?_, ?_, World.ownsRow_nil _ _ _ _, HOK.out, Nat.le_succ _, Nat.le_refl _⟩, ((Below.refl _ _).alloc (Nat.le_refl _) _).alloc (by simp) _⟩
  · rw [heap_alloc2_new]
    unfold headV newD
    simp only [List.length_replicate]
    rfl
  · rw [Below.heap_alloc _ _ _ (by simp)]
    exact heap_alloc_new w _
theorem dnew_no (n : Int) (w : World) (h : n < 1 ∨ 65536 < n) :
    Calls Try.prog 48 #[.int .i64 n] w fun e w' => e = .returned (.tuple #[.pointer none, .int .i64 1]) ∧ w = w' := by
  rcases h with h | h
  · go_enter Try.func48, Try.ntmps48
    go_wp2
    go_ret2
    exact ⟨rfl, rfl⟩
  · have h1 : ¬ n < 1 := by omega
    go_enter Try.func48, Try.ntmps48
    go_wp2
    go_ret2
    exact ⟨rfl, rfl⟩
end Go.Proofs.Ytbpklbicbeckdaa
