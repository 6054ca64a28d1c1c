/- The usage table in memory, and the program's small calls on it, by their walks. -/
import Derived.Test.YtplkglepbedhoaaPick3
import Derived.Laws.MakeOwn
import Derived.Lib.MinMax
import Derived.RegionTactic
import Derived.ChangeAlike
namespace Go.Proofs.Ytplkglepbedhoaa
open Go.RowKit Go.Sort
set_option linter.unusedVariables false
set_option linter.unusedSimpArgs false
set_option maxRecDepth 100000

def UseOk (room : Int) (u : UseD) : Prop := 0 ≤ u.live ∧ u.live ≤ room ∧ 0 ≤ u.state ∧ u.state ≤ 3 ∧ 0 ≤ u.age ∧ u.age < 4294967296
def TabOk (room : Int) (us : List UseD) : Prop := 1 ≤ room ∧ room ≤ 4096 ∧ 1 ≤ us.length ∧ us.length ≤ 200 ∧ ∀ u ∈ us, UseOk room u
def tabHead (gs : Nat) (room : Int) (n : Nat) : Array Value := #[.int .i64 room, .slice (some ⟨gs, 0, none⟩) n n]
def IsTab (B : Nat) (w : World) (g gs : Nat) (room : Int) (us : List UseD) : Prop :=
  w.heap[g]? = some (.cells (tabHead gs room us.length) 187 (0, 0)) ∧ OwnsR' B w 28 3 (.slice (some ⟨gs, 0, none⟩) us.length us.length) (usesV us) ∧ B ≤ g ∧ TabOk room us
theorem OwnsR'.apart {B : Nat} {w : World} {e t : TypeId} {k : Nat} {v : Value} {l : List (List Value)} {g : Nat} {C : Array Value} {fr : Nat × Nat} (h : OwnsR' B w e k v l) (hg : w.heap[g]? = some (.cells C t fr)) (hne : e ≠ t) : v.ownBlock ≠ some g := by
  obtain ⟨_, _, h⟩ := h
  rcases h with ⟨rfl, _⟩ | ⟨g', cap, cur, rfl, _, hg', _⟩
  · intro h; cases h
  · intro h
    obtain rfl : g' = g := by simpa [Value.ownBlock] using h
    rw [hg] at hg'
    simp at hg'
    exact hne hg'.2.1.symm
theorem IsTab.apart {B : Nat} {w : World} {g gs : Nat} {room : Int} {us : List UseD} (h : IsTab B w g gs room us) : gs ≠ g := by
  have := h.2.1.apart h.1 (by decide)
  intro e
  exact this (by rw [e]; rfl)
theorem IsTab.below {B : Nat} {w w' : World} {g gs : Nat} {room : Int} {us : List UseD} (h : IsTab B w g gs room us) (b : Below w.heap.size w w') : IsTab B w' g gs room us :=
  ⟨(b.block g (Array.getElem?_eq_some_iff.1 h.1).1).trans h.1, h.2.1.below b, h.2.2⟩
theorem IsTab.less {B B' : Nat} {w : World} {g gs : Nat} {room : Int} {us : List UseD} (h : IsTab B w g gs room us) (hB : B' ≤ B) : IsTab B' w g gs room us := ⟨h.1, h.2.1.less hB, Nat.le_trans hB h.2.2.1, h.2.2.2⟩
theorem tab_facts {B : Nat} {w : World} {g gs : Nat} {room : Int} {us : List UseD} (h : IsTab B w g gs room us) :
    w.cell? ⟨g, 0, none⟩ = some (.int .i64 room) ∧ w.cell? ⟨g, 1, none⟩ = some (.slice (some ⟨gs, 0, none⟩) us.length us.length) := by
  refine ⟨?_, ?_⟩ <;> (unfold World.cell?; rw [h.1]; rfl)
theorem tab_lt {B : Nat} {w : World} {g gs : Nat} {room : Int} {us : List UseD} (h : IsTab B w g gs room us) : g < w.heap.size ∧ gs < w.heap.size := ⟨(Array.getElem?_eq_some_iff.1 h.1).1, (h.2.1.lt gs rfl).2⟩
theorem tab_row {B : Nat} {w : World} {g gs : Nat} {room : Int} {us : List UseD} (h : IsTab B w g gs room us) {i : Nat} {u : UseD} (hu : us[i]? = some u) :
    w.cell? ⟨gs, i * 3, none⟩ = some (.int .i64 u.live) ∧ w.cell? ⟨gs, i * 3 + 1, none⟩ = some (.int .i64 u.state) ∧ w.cell? ⟨gs, i * 3 + 2, none⟩ = some (.int .u32 u.age) := by
  have hh := h.2.1.head.2.2 i _ (usesV_get hu)
  exact ⟨hh 0 _ rfl, hh 1 _ rfl, hh 2 _ rfl⟩
theorem tab_free {B : Nat} {w : World} {g gs : Nat} {room : Int} {us : List UseD} (h : IsTab B w g gs room us) (j : Nat) : w.frozen? ⟨gs, j, none⟩ = false := h.2.1.frozen (usesV_length us) j
/-- A cell of a row is another one. -/
theorem tab_store {B : Nat} {w : World} {g gs : Nat} {room : Int} {us : List UseD} (h : IsTab B w g gs room us) {i j : Nat} {u u' : UseD} (hu : us[i]? = some u) (hj : j < 3) (x : Value) (hx : (useV u).set j x = useV u') (hok : UseOk room u') :
    IsTab B (w.setCell ⟨gs, i * 3 + j, none⟩ x) g gs room (us.set i u') ∧ w.grownBy (w.setCell ⟨gs, i * 3 + j, none⟩ x) (some gs) := by
  have hs := h.2.1.stored (usesV_length us) (usesV_get hu) hj x
  have e : (usesV us).set i ((useV u).set j x) = usesV (us.set i u') := by rw [hx]; unfold usesV; rw [List.map_set]
  rw [e] at hs
  refine ⟨⟨?_, ?_, h.2.2.1, ?_⟩, hs.2⟩
  · rw [List.length_set, ← h.1]
    exact hs.2.block g (tab_lt h).1 (by rw [Ne, Option.some.injEq]; exact fun e => h.apart e.symm)
  · rw [List.length_set]
    exact hs.1
  · refine ⟨h.2.2.2.1, h.2.2.2.2.1, by rw [List.length_set]; exact h.2.2.2.2.2.1, by rw [List.length_set]; exact h.2.2.2.2.2.2.1, fun y hy => ?_⟩
    rcases List.mem_or_eq_of_mem_set hy with hy | rfl
    · exact h.2.2.2.2.2.2.2 y hy
    · exact hok
def clampI (most n : Int) : Int := min (max n 1) most
theorem clampI_of {most n : Int} (hm : 1 ≤ most) : 1 ≤ clampI most n ∧ clampI most n ≤ most := by unfold clampI; omega
def zeroU : UseD := ⟨0, 0, 0⟩
theorem info_use : (Try.prog.info? 28).map (fun i => (i.zero, i.size, i.bytes)) = some (some (.agg #[.int .i64 0, .int .i64 0, .int .u32 0]), 3, 24) := by kernel_rfl
set_option maxHeartbeats 1000000 in
theorem upTo_is (most n : Int) (w : World) (h1 : I64 n) (h2 : I64 most) : Calls Try.prog 99 #[.int .i64 most, .int .i64 n] w fun e w' => e = .returned (.int .i64 (clampI most n)) ∧ w = w' := by
  go_enter Try.func99, Try.ntmps99
  go_wp2
  go_ret
  exact ⟨rfl, rfl⟩
theorem made_uses (n : Nat) : (madeCells #[.int .i64 0, .int .i64 0, .int .u32 0] (n * 3)).toList = flatR (usesV (List.replicate n zeroU)) := by
  have hall : ∀ p ∈ usesV (List.replicate n zeroU), p.length = 3 := by
    intro p hp
    unfold usesV at hp
    rw [List.mem_map] at hp
    obtain ⟨u, _, rfl⟩ := hp
    rfl
  apply List.ext_getElem?
  intro k
  rw [Array.getElem?_toList]
  by_cases hk : k < n * 3
  · have hd : k = (k / 3) * 3 + k % 3 := by omega
    have hq : k / 3 < n := by omega
    have hm : k % 3 < 3 := Nat.mod_lt _ (by decide)
    have h1 : (usesV (List.replicate n zeroU))[k / 3]? = some (useV zeroU) := usesV_get (by rw [List.getElem?_replicate, if_pos hq])
    have h2 := flatR_get hall h1 hm
    rw [← hd] at h2
    rw [h2]
    unfold madeCells
    rw [Array.getElem?_map, Array.getElem?_range, if_pos hk]
    simp only [Option.map_some]
    show some ((#[Value.int .i64 0, Value.int .i64 0, Value.int .u32 0] : Array Value)[k % 3]!) = _
    obtain h | h | h : k % 3 = 0 ∨ k % 3 = 1 ∨ k % 3 = 2 := by omega
    all_goals rw [h]; rfl
  · rw [Array.getElem?_eq_none (by rw [size_madeCells]; omega), List.getElem?_eq_none (by rw [flatR_length hall, usesV_length, List.length_replicate]; omega)]
theorem new_ok {room : Int} (h1 : 1 ≤ room) (h2 : room ≤ 4096) {n : Nat} (h3 : 1 ≤ n) (h4 : n ≤ 200) : TabOk room (List.replicate n zeroU) := by
  refine ⟨h1, h2, by rw [List.length_replicate]; exact h3, by rw [List.length_replicate]; exact h4, fun u hu => ?_⟩
  rw [List.eq_of_mem_replicate hu]
  exact ⟨by decide, by show (0 : Int) ≤ room; omega, by decide, by decide, by decide, by decide⟩
theorem run_make_rowU (n : Nat) (hn : n ≤ 200) (w : World) :
    (Instr.makeSlice 24 (.int .i64 (n : Int)) (.int .i64 (n : Int))).run Try.prog w = .ok (.slice (some ⟨w.heap.size, 0, none⟩) n n) (w.alloc (.cells (madeCells #[.int .i64 0, .int .i64 0, .int .u32 0] (n * 3)) 28)) := by
  obtain ⟨i0, hi, hz0, hz1, hz2⟩ := info_parts info_use
  have hr := run_make (P := Try.prog) w 24 28 i0 (.agg #[.int .i64 0, .int .i64 0, .int .u32 0]) Try.underlying24 hi hz0 .i64 .i64 n n (by omega) (by omega) (by rw [hz2]; omega) (by omega)
  simp only [Int.toNat_natCast, hz1, Value.cells] at hr
  exact hr
def NewPost (w : World) (room : Int) (us : List UseD) (e : Ending) (w' : World) : Prop := ∃ g gs, e = .returned (.pointer (some ⟨g, 0, none⟩)) ∧ IsTab w.heap.size w' g gs room us ∧ Below w.heap.size w w'
set_option maxHeartbeats 1600000 in
theorem tnew_is (segs room : Int) (w : World) (h1 : I64 segs) (h2 : I64 room) (n : Nat) (hn : clampI 200 segs = n) :
    Calls Try.prog 35 #[.int .i64 segs, .int .i64 room] w (NewPost w (clampI 4096 room) (List.replicate n zeroU)) := by
  have hb1 := clampI_of (most := 4096) (n := room) (by decide)
  have hb2 := clampI_of (most := 200) (n := segs) (by decide)
  rw [hn] at hb2
  have hn1 : 1 ≤ n := by omega
  have hn2 : n ≤ 200 := by omega
  have hok := new_ok hb1.1 hb1.2 hn1 hn2
  have HOK := Lib.hid hok
  have hmk := fun W => run_make_rowU n hn2 W
  have H1 := Lib.hid h1
  have H2 := Lib.hid h2
  have HN := Lib.hid hn
  clear hok h1 h2 hn hb1 hb2
  go_enter Try.func35, Try.ntmps35
  go_wp2_with fail
  refine (upTo_is 4096 room _ H2.out ⟨by decide, by decide⟩).mono ?_
  rintro e w' ⟨rfl, rfl⟩
  generalize clampI 4096 room = r at *
  go_wp2_with fail
  refine (upTo_is 200 segs _ H1.out ⟨by decide, by decide⟩).mono ?_
  rintro e w' ⟨rfl, rfl⟩
  rw [HN.out]
  go_wp2
  go_ret
  refine ⟨w.heap.size + 1, w.heap.size, rfl, ⟨?_, ?_, Nat.le_succ _, HOK.out⟩, ((Below.refl _ _).alloc (Nat.le_refl _) _).alloc (by simp) _⟩
  · rw [heap_alloc2_new, List.length_replicate]
    rfl
  · have hl : (usesV (List.replicate n zeroU)).length = n := by rw [usesV_length, List.length_replicate]
    have hnew := OwnsR'.new (B := w.heap.size) (w := w) (e := 28) (k := 3) (l := usesV (List.replicate n zeroU)) (by
      intro p hp
      unfold usesV at hp
      rw [List.mem_map] at hp
      obtain ⟨u, _, rfl⟩ := hp
      rfl) (Nat.le_refl _) (by rw [hl]; unfold maxLen; omega) (made_uses n)
    rw [hl] at hnew
    rw [List.length_replicate]
    exact hnew.alloc _
end Go.Proofs.Ytplkglepbedhoaa
