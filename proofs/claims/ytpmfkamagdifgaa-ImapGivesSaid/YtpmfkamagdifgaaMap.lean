/- The inode map in memory, and the program's small calls on it, by their walks. -/
import Derived.Test.YtpmfkamagdifgaaPick3
import Derived.Test.YtpmfkamagdifgaaPick2
import Derived.Laws.MakeOwn
import Derived.Lib.MinMax
import Derived.RegionTactic
import Derived.ChangeAlike
import Derived.IntWalk
namespace Go.Proofs.Ytpmfkamagdifgaa
open Go.RowKit Go.Sort
set_option linter.unusedVariables false
set_option linter.unusedSimpArgs false
set_option maxRecDepth 100000

def SlotOk (s : SlotD) : Prop := 0 ≤ s.place ∧ s.place ≤ 65535 ∧ 0 ≤ s.version ∧ s.version < 4294967296 ∧ 0 ≤ s.links ∧ s.links ≤ 65535 ∧ 0 ≤ s.kind ∧ s.kind ≤ 2
def MapOk (sl : List SlotD) : Prop := 1 ≤ sl.length ∧ sl.length ≤ 200 ∧ ∀ s ∈ sl, SlotOk s
def IsMap (B : Nat) (w : World) (g gs : Nat) (sl : List SlotD) : Prop :=
  w.heap[g]? = some (.cells #[.slice (some ⟨gs, 0, none⟩) sl.length sl.length] 220 (0, 0)) ∧ OwnsR' B w 29 4 (.slice (some ⟨gs, 0, none⟩) sl.length sl.length) (slotsV sl) ∧ B ≤ g ∧ MapOk sl
theorem OwnsR'.apartM {B : Nat} {w : World} {e t : TypeId} {k : Nat} {v : Value} {l : List (List Value)} {g : Nat} {C : Array Value} {fr : Nat × Nat} (h : OwnsR' B w e k v l) (hg : w.heap[g]? = some (.cells C t fr)) (hne : e ≠ t) : v.ownBlock ≠ some g := by
  obtain ⟨_, _, h⟩ := h
  rcases h with ⟨rfl, _⟩ | ⟨g', cap, cur, rfl, _, hg', _⟩
  · intro h; cases h
  · intro h
    obtain rfl : g' = g := by simpa [Value.ownBlock] using h
    rw [hg] at hg'
    simp at hg'
    exact hne hg'.2.1.symm
theorem IsMap.apart {B : Nat} {w : World} {g gs : Nat} {sl : List SlotD} (h : IsMap B w g gs sl) : gs ≠ g := by
  have := h.2.1.apartM h.1 (by decide)
  intro e
  exact this (by rw [e]; rfl)
theorem IsMap.below {B : Nat} {w w' : World} {g gs : Nat} {sl : List SlotD} (h : IsMap B w g gs sl) (b : Below w.heap.size w w') : IsMap B w' g gs sl :=
  ⟨(b.block g (Array.getElem?_eq_some_iff.1 h.1).1).trans h.1, h.2.1.below b, h.2.2⟩
theorem map_facts {B : Nat} {w : World} {g gs : Nat} {sl : List SlotD} (h : IsMap B w g gs sl) : w.cell? ⟨g, 0, none⟩ = some (.slice (some ⟨gs, 0, none⟩) sl.length sl.length) := by
  unfold World.cell?; rw [h.1]; rfl
theorem map_lt {B : Nat} {w : World} {g gs : Nat} {sl : List SlotD} (h : IsMap B w g gs sl) : g < w.heap.size ∧ gs < w.heap.size := ⟨(Array.getElem?_eq_some_iff.1 h.1).1, (h.2.1.lt gs rfl).2⟩
theorem map_row {B : Nat} {w : World} {g gs : Nat} {sl : List SlotD} (h : IsMap B w g gs sl) {i : Nat} {s : SlotD} (hu : sl[i]? = some s) :
    w.cell? ⟨gs, i * 4, none⟩ = some (.int .i64 s.place) ∧ w.cell? ⟨gs, i * 4 + 1, none⟩ = some (.int .u32 s.version) ∧ w.cell? ⟨gs, i * 4 + 2, none⟩ = some (.int .i64 s.links) ∧ w.cell? ⟨gs, i * 4 + 3, none⟩ = some (.int .i64 s.kind) := by
  have hh := h.2.1.head.2.2 i _ (slotsV_get hu)
  exact ⟨hh 0 _ rfl, hh 1 _ rfl, hh 2 _ rfl, hh 3 _ rfl⟩
theorem map_free {B : Nat} {w : World} {g gs : Nat} {sl : List SlotD} (h : IsMap B w g gs sl) (j : Nat) : w.frozen? ⟨gs, j, none⟩ = false := h.2.1.frozen (slotsV_length sl) j
theorem map_store {B : Nat} {w : World} {g gs : Nat} {sl : List SlotD} (h : IsMap B w g gs sl) {i j : Nat} {s s' : SlotD} (hu : sl[i]? = some s) (hj : j < 4) (x : Value) (hx : (slotV s).set j x = slotV s') (hok : SlotOk s') :
    IsMap B (w.setCell ⟨gs, i * 4 + j, none⟩ x) g gs (sl.set i s') ∧ w.grownBy (w.setCell ⟨gs, i * 4 + j, none⟩ x) (some gs) := by
  have hs := h.2.1.stored (slotsV_length sl) (slotsV_get hu) hj x
  have e : (slotsV sl).set i ((slotV s).set j x) = slotsV (sl.set i s') := by rw [hx]; unfold slotsV; rw [List.map_set]
  rw [e] at hs
  refine ⟨⟨?_, ?_, h.2.2.1, ?_⟩, hs.2⟩
  · rw [List.length_set, ← h.1]
    exact hs.2.block g (map_lt h).1 (by rw [Ne, Option.some.injEq]; exact fun e => h.apart e.symm)
  · rw [List.length_set]
    exact hs.1
  · refine ⟨by rw [List.length_set]; exact h.2.2.2.1, by rw [List.length_set]; exact h.2.2.2.2.1, fun y hy => ?_⟩
    rcases List.mem_or_eq_of_mem_set hy with hy | rfl
    · exact h.2.2.2.2.2 y hy
    · exact hok
def put4 (w : World) (gs i : Nat) (s : SlotD) : World := (((w.setCell ⟨gs, i * 4, none⟩ (.int .i64 s.place)).setCell ⟨gs, i * 4 + 1, none⟩ (.int .u32 s.version)).setCell ⟨gs, i * 4 + 2, none⟩ (.int .i64 s.links)).setCell ⟨gs, i * 4 + 3, none⟩ (.int .i64 s.kind)
theorem grown_transM {w w' w'' : World} {row : Option Nat} (h : w.grownBy w' row) (k : w'.grownBy w'' row) : w.grownBy w'' row :=
  ⟨k.os.trans h.os, k.tape.trans h.tape, k.output.trans h.output, Nat.le_trans h.size k.size, fun j hj hne => (k.block j (Nat.lt_of_lt_of_le hj h.size) hne).trans (h.block j hj hne)⟩
theorem map_put {B : Nat} {w : World} {g gs : Nat} {sl : List SlotD} (h : IsMap B w g gs sl) {i : Nat} {s s' : SlotD} (hu : sl[i]? = some s) (hok : SlotOk s') :
    IsMap B (put4 w gs i s') g gs (sl.set i s') ∧ w.grownBy (put4 w gs i s') (some gs) := by
  have hi := (List.getElem?_eq_some_iff.1 hu).1
  have ho : SlotOk s := h.2.2.2.2.2 s (List.mem_of_getElem? hu)
  obtain ⟨p1, p2, p3, p4, p5, p6, p7, p8⟩ := ho
  obtain ⟨q1, q2, q3, q4, q5, q6, q7, q8⟩ := hok
  have s1 := map_store (j := 0) h hu (by decide) (.int .i64 s'.place) (s' := ⟨s'.place, s.version, s.links, s.kind⟩) rfl ⟨q1, q2, p3, p4, p5, p6, p7, p8⟩
  have s2 := map_store (j := 1) s1.1 (s := ⟨s'.place, s.version, s.links, s.kind⟩) (i := i) (by rw [List.getElem?_set_self hi]) (by decide) (.int .u32 s'.version) (s' := ⟨s'.place, s'.version, s.links, s.kind⟩) rfl ⟨q1, q2, q3, q4, p5, p6, p7, p8⟩
  have s3 := map_store (j := 2) s2.1 (s := ⟨s'.place, s'.version, s.links, s.kind⟩) (i := i) (by rw [List.getElem?_set_self (by rw [List.length_set]; exact hi)]) (by decide) (.int .i64 s'.links) (s' := ⟨s'.place, s'.version, s'.links, s.kind⟩) rfl ⟨q1, q2, q3, q4, q5, q6, p7, p8⟩
  have s4 := map_store (j := 3) s3.1 (s := ⟨s'.place, s'.version, s'.links, s.kind⟩) (i := i) (by rw [List.getElem?_set_self (by rw [List.length_set, List.length_set]; exact hi)]) (by decide) (.int .i64 s'.kind) (s' := s') rfl ⟨q1, q2, q3, q4, q5, q6, q7, q8⟩
  rw [List.set_set, List.set_set, List.set_set] at s4
  exact ⟨s4.1, grown_transM (grown_transM (grown_transM s1.2 s2.2) s3.2) s4.2⟩
def clampM (n : Int) : Int := min (max n 1) 200
def zeroS : SlotD := ⟨0, 0, 0, 0⟩
theorem info_slot : (Try.prog.info? 29).map (fun i => (i.zero, i.size, i.bytes)) = some (some (.agg #[.int .i64 0, .int .u32 0, .int .i64 0, .int .i64 0]), 4, 32) := by kernel_rfl
theorem slots_rows (sl : List SlotD) : ∀ p ∈ slotsV sl, p.length = 4 := by
  intro p hp
  unfold slotsV at hp
  rw [List.mem_map] at hp
  obtain ⟨u, _, rfl⟩ := hp
  rfl
theorem made_slots (n : Nat) : (madeCells #[.int .i64 0, .int .u32 0, .int .i64 0, .int .i64 0] (n * 4)).toList = flatR (slotsV (List.replicate n zeroS)) := by
  have hall := slots_rows (List.replicate n zeroS)
  apply List.ext_getElem?
  intro k
  rw [Array.getElem?_toList]
  by_cases hk : k < n * 4
  · have hd : k = (k / 4) * 4 + k % 4 := by omega
    have hq : k / 4 < n := by omega
    have hm : k % 4 < 4 := Nat.mod_lt _ (by decide)
    have h1 : (slotsV (List.replicate n zeroS))[k / 4]? = some (slotV zeroS) := slotsV_get (by rw [List.getElem?_replicate, if_pos hq])
    have h2 := flatR_get hall h1 hm
    rw [← hd] at h2
    rw [h2]
    unfold madeCells
    rw [Array.getElem?_map, Array.getElem?_range, if_pos hk]
    simp only [Option.map_some]
    show some ((#[Value.int .i64 0, Value.int .u32 0, Value.int .i64 0, Value.int .i64 0] : Array Value)[k % 4]!) = _
    obtain h | h | h | h : k % 4 = 0 ∨ k % 4 = 1 ∨ k % 4 = 2 ∨ k % 4 = 3 := by omega
    all_goals rw [h]; rfl
  · rw [Array.getElem?_eq_none (by rw [size_madeCells]; omega), List.getElem?_eq_none (by rw [flatR_length hall, slotsV_length, List.length_replicate]; omega)]
theorem run_make_rowS (n : Nat) (hn : n ≤ 200) (w : World) :
    (Instr.makeSlice 25 (.int .i64 (n : Int)) (.int .i64 (n : Int))).run Try.prog w = .ok (.slice (some ⟨w.heap.size, 0, none⟩) n n) (w.alloc (.cells (madeCells #[.int .i64 0, .int .u32 0, .int .i64 0, .int .i64 0] (n * 4)) 29)) := by
  obtain ⟨i0, hi, hz0, hz1, hz2⟩ := info_parts info_slot
  have hr := run_make (P := Try.prog) w 25 29 i0 (.agg #[.int .i64 0, .int .u32 0, .int .i64 0, .int .i64 0]) Try.underlying25 hi hz0 .i64 .i64 n n (by omega) (by omega) (by rw [hz2]; omega) (by omega)
  simp only [Int.toNat_natCast, hz1, Value.cells] at hr
  exact hr
def MNewPost (w : World) (sl : List SlotD) (e : Ending) (w' : World) : Prop := ∃ g gs, e = .returned (.pointer (some ⟨g, 0, none⟩)) ∧ IsMap w.heap.size w' g gs sl ∧ Below w.heap.size w w'
set_option maxHeartbeats 1600000 in
theorem mnew_is (n : Int) (w : World) (m : Nat) (hm : clampM n = m) : Calls Try.prog 39 #[.int .i64 n] w (MNewPost w (List.replicate m zeroS)) := by
  have hm2 : m ≤ 200 := by unfold clampM at hm; omega
  have hm1 : 1 ≤ m := by unfold clampM at hm; omega
  have hmk := fun W => run_make_rowS m hm2 W
  have hm' : min (max n 1) 200 = (m : Int) := hm
  have hok : MapOk (List.replicate m zeroS) := ⟨by rw [List.length_replicate]; exact hm1, by rw [List.length_replicate]; exact hm2, fun s hs => by rw [List.eq_of_mem_replicate hs]; exact ⟨by decide, by decide, by decide, by decide, by decide, by decide, by decide, by decide⟩⟩
  have HOK := Lib.hid hok
  clear hm hok
  go_enter Try.func39, Try.ntmps39
  go_wp2
  go_ret
  refine ⟨w.heap.size + 1, w.heap.size, rfl, ⟨?_, ?_, Nat.le_succ _, HOK.out⟩, ((Below.refl _ _).alloc (Nat.le_refl _) _).alloc (by simp) _⟩
  · rw [heap_alloc2_new, List.length_replicate]
  · have hl : (slotsV (List.replicate m zeroS)).length = m := by rw [slotsV_length, List.length_replicate]
    have hnew := OwnsR'.new (B := w.heap.size) (w := w) (e := 29) (k := 4) (l := slotsV (List.replicate m zeroS)) (slots_rows _) (Nat.le_refl _) (by rw [hl]; unfold maxLen; omega) (made_slots m)
    rw [hl] at hnew
    rw [List.length_replicate]
    exact hnew.alloc _
theorem mhas_yes {B : Nat} {w : World} {g gs : Nat} {sl : List SlotD} (h : IsMap B w g gs sl) (i : Nat) (hi : i < sl.length) :
    Calls Try.prog 125 #[.pointer (some ⟨g, 0, none⟩), .int .i64 ((i : Int) + 1)] w fun e w' => e = .returned (.bool true) ∧ w = w' := by
  have c0 := map_facts h
  clear h
  have h1 : (1 : Int) ≤ (i : Int) + 1 := by omega
  have h2 : (i : Int) + 1 ≤ (sl.length : Int) := by omega
  go_enter Try.func125, Try.ntmps125
  go_wp2
  go_ret
  exact ⟨rfl, rfl⟩
theorem mhas_no {B : Nat} {w : World} {g gs : Nat} {sl : List SlotD} (h : IsMap B w g gs sl) (n : Int) (hn : n < 1 ∨ (sl.length : Int) < n) :
    Calls Try.prog 125 #[.pointer (some ⟨g, 0, none⟩), .int .i64 n] w fun e w' => e = .returned (.bool false) ∧ w = w' := by
  have c0 := map_facts h
  clear h
  by_cases h0 : n < 1
  · have h1 : ¬ (1 : Int) ≤ n := by omega
    go_enter Try.func125, Try.ntmps125
    go_wp2
    go_ret
    exact ⟨rfl, rfl⟩
  · have h1 : (1 : Int) ≤ n := by omega
    have h2 : ¬ n ≤ (sl.length : Int) := by omega
    clear hn
    go_enter Try.func125, Try.ntmps125
    go_wp2
    go_ret
    exact ⟨rfl, rfl⟩
theorem among_yes (n a b : Int) (w : World) (h1 : a ≤ n) (h2 : n ≤ b) : Calls Try.prog 115 #[.int .i64 n, .int .i64 a, .int .i64 b] w fun e w' => e = .returned (.bool true) ∧ w = w' := by
  go_enter Try.func115, Try.ntmps115
  go_wp2
  go_ret
  exact ⟨rfl, rfl⟩
theorem among_no (n a b : Int) (w : World) (h : n < a ∨ b < n) : Calls Try.prog 115 #[.int .i64 n, .int .i64 a, .int .i64 b] w fun e w' => e = .returned (.bool false) ∧ w = w' := by
  by_cases h0 : n < a
  · have h1 : ¬ a ≤ n := by omega
    go_enter Try.func115, Try.ntmps115
    go_wp2
    go_ret
    exact ⟨rfl, rfl⟩
  · have h1 : a ≤ n := by omega
    have h2 : ¬ n ≤ b := by omega
    clear h
    go_enter Try.func115, Try.ntmps115
    go_wp2
    go_ret
    exact ⟨rfl, rfl⟩
theorem free_is (s : SlotD) (w : World) : Calls Try.prog 117 #[.agg #[.int .i64 s.place, .int .u32 s.version, .int .i64 s.links, .int .i64 s.kind]] w fun e w' => e = .returned (.bool (s.kind == 0)) ∧ Below w.heap.size w w' := by
  go_enter Try.func117, Try.ntmps117
  go_wp2
  go_ret
  exact ⟨rfl, below_box _ _⟩
theorem enters_free (args : Array Value) (w : World) : (callFunc 117 args).run Try.prog w = .ok (.enter 117 args) w := enters_of Try.func117 (by kernel_rfl) rfl args w
theorem enters_used (args : Array Value) (w : World) : (callFunc 201 args).run Try.prog w = .ok (.enter 201 args) w := enters_of Try.func201 (by kernel_rfl) rfl args w
theorem free_pred (w : World) : PredV 117 #[] (fun s => .agg (slotV s).toArray) (fun _ => True) (fun s => s.kind == 0) w := fun W s _ _ => free_is s W
theorem used_pred (w : World) : PredV 201 #[] (fun s => .agg (slotV s).toArray) (fun _ => True) (fun s => !(s.kind == 0)) w := by
  intro W s _ hB
  clear hB
  show Calls Try.prog 201 #[.agg #[.int .i64 s.place, .int .u32 s.version, .int .i64 s.links, .int .i64 s.kind]] W _
  go_enter Try.func201, Try.ntmps201
  go_wp2_with fail
  refine (free_is s _).mono ?_
  rintro e w1 ⟨rfl, b1⟩
  go_wp2
  go_ret
  exact ⟨rfl, below_next (below_box _ _) b1⟩
theorem map_reads {B : Nat} {w : World} {g gs : Nat} {sl : List SlotD} (h : IsMap B w g gs sl) : ReadsR w (some ⟨gs, 0, none⟩) 4 (slotsV sl) := by
  obtain ⟨a, c, hv, hr, _, _⟩ := h.2.1.reads
  obtain ⟨rfl, _, _⟩ := Value.slice.inj hv
  exact hr
end Go.Proofs.Ytpmfkamagdifgaa
