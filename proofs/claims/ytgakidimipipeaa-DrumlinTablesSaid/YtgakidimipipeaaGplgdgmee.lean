/- The inode map in memory, and the program's small calls on it, by their walks. The inode map: Get, Alloc, used, Link, Release, Used, Count. Sorting by halves, and by the best one again and again, as plain lists: both come to one list. -/
import Derived.Test.YtgakidimipipeaaGcgcppfff
import Derived.Laws.MakeOwn
import Derived.Lib.MinMax
import Derived.RegionTactic
import Derived.ChangeAlike
import Derived.IntWalk
import Derived.Deep.QuietTactic
import Derived.BigQuiet
import Derived.Below
namespace Go.Proofs.Ytgakidimipipeaa
open Go.RowKit Go.Sort
set_option linter.unusedVariables false
set_option linter.unusedSimpArgs false
set_option maxRecDepth 100000

def SlotOk (s : SlotD) : Prop := 0 ≤ s.place ∧ s.place ≤ 65535 ∧ 0 ≤ s.version ∧ s.version < 4294967296 ∧ 0 ≤ s.links ∧ s.links ≤ 65535 ∧ 0 ≤ s.kind ∧ s.kind ≤ 2
def MapOk (sl : List SlotD) : Prop := 1 ≤ sl.length ∧ sl.length ≤ 200 ∧ ∀ s ∈ sl, SlotOk s
def IsMap (B : Nat) (w : World) (g gs : Nat) (sl : List SlotD) : Prop :=
  w.heap[g]? = some (.cells #[.slice (some ⟨gs, 0, none⟩) sl.length sl.length] 107 (0, 0)) ∧ OwnsR' B w 28 4 (.slice (some ⟨gs, 0, none⟩) sl.length sl.length) (slotsV sl) ∧ B ≤ g ∧ MapOk sl
theorem OwnsR'.apartM {B : Nat} {w : World} {e t : TypeId} {k : Nat} {v : Value} {l : List (List Value)} {g : Nat} {C : Array Value} {fr : Nat × Nat} (h : OwnsR' B w e k v l) (hg : w.heap[g]? = some (.cells C t fr)) (hne : e ≠ t) : v.ownBlock ≠ some g := by
  obtain ⟨_, _, h⟩ := h
  rcases h with ⟨rfl, _⟩ | ⟨g', cap, cur, rfl, _, hg', _⟩
  · intro h; cases h
  · intro h
    obtain rfl : g' = g := by simpa [Value.ownBlock] using h
    rw [hg] at hg'
    simp at hg'
    exact hne hg'.2.1.symm
theorem IsMap.apart {B : Nat} {w : World} {g gs : Nat} {sl : List SlotD} (h : IsMap B w g gs sl) : gs ≠ g := by
  have := h.2.1.apartM h.1 (by decide)
  intro e
  exact this (by rw [e]; rfl)
theorem IsMap.below {B : Nat} {w w' : World} {g gs : Nat} {sl : List SlotD} (h : IsMap B w g gs sl) (b : Below w.heap.size w w') : IsMap B w' g gs sl :=
  ⟨(b.block g (Array.getElem?_eq_some_iff.1 h.1).1).trans h.1, h.2.1.below b, h.2.2⟩
theorem map_facts {B : Nat} {w : World} {g gs : Nat} {sl : List SlotD} (h : IsMap B w g gs sl) : w.cell? ⟨g, 0, none⟩ = some (.slice (some ⟨gs, 0, none⟩) sl.length sl.length) := by
  unfold World.cell?; rw [h.1]; rfl
theorem map_lt {B : Nat} {w : World} {g gs : Nat} {sl : List SlotD} (h : IsMap B w g gs sl) : g < w.heap.size ∧ gs < w.heap.size := ⟨(Array.getElem?_eq_some_iff.1 h.1).1, (h.2.1.lt gs rfl).2⟩
theorem map_row {B : Nat} {w : World} {g gs : Nat} {sl : List SlotD} (h : IsMap B w g gs sl) {i : Nat} {s : SlotD} (hu : sl[i]? = some s) :
    w.cell? ⟨gs, i * 4, none⟩ = some (.int .i64 s.place) ∧ w.cell? ⟨gs, i * 4 + 1, none⟩ = some (.int .u32 s.version) ∧ w.cell? ⟨gs, i * 4 + 2, none⟩ = some (.int .i64 s.links) ∧ w.cell? ⟨gs, i * 4 + 3, none⟩ = some (.int .i64 s.kind) := by
  have hh := h.2.1.head.2.2 i _ (slotsV_get hu)
  exact ⟨hh 0 _ rfl, hh 1 _ rfl, hh 2 _ rfl, hh 3 _ rfl⟩
theorem map_free {B : Nat} {w : World} {g gs : Nat} {sl : List SlotD} (h : IsMap B w g gs sl) (j : Nat) : w.frozen? ⟨gs, j, none⟩ = false := h.2.1.frozen (slotsV_length sl) j
theorem map_store {B : Nat} {w : World} {g gs : Nat} {sl : List SlotD} (h : IsMap B w g gs sl) {i j : Nat} {s s' : SlotD} (hu : sl[i]? = some s) (hj : j < 4) (x : Value) (hx : (slotV s).set j x = slotV s') (hok : SlotOk s') :
    IsMap B (w.setCell ⟨gs, i * 4 + j, none⟩ x) g gs (sl.set i s') ∧ w.grownBy (w.setCell ⟨gs, i * 4 + j, none⟩ x) (some gs) := by
  have hs := h.2.1.stored (slotsV_length sl) (slotsV_get hu) hj x
  have e : (slotsV sl).set i ((slotV s).set j x) = slotsV (sl.set i s') := by rw [hx]; unfold slotsV; rw [List.map_set]
  rw [e] at hs
  refine ⟨⟨?_, ?_, h.2.2.1, ?_⟩, hs.2⟩
  · rw [List.length_set, ← h.1]
    exact hs.2.block g (map_lt h).1 (by rw [Ne, Option.some.injEq]; exact fun e => h.apart e.symm)
  · rw [List.length_set]
    exact hs.1
  · refine ⟨by rw [List.length_set]; exact h.2.2.2.1, by rw [List.length_set]; exact h.2.2.2.2.1, fun y hy => ?_⟩
    rcases List.mem_or_eq_of_mem_set hy with hy | rfl
    · exact h.2.2.2.2.2 y hy
    · exact hok
def put4 (w : World) (gs i : Nat) (s : SlotD) : World := (((w.setCell ⟨gs, i * 4, none⟩ (.int .i64 s.place)).setCell ⟨gs, i * 4 + 1, none⟩ (.int .u32 s.version)).setCell ⟨gs, i * 4 + 2, none⟩ (.int .i64 s.links)).setCell ⟨gs, i * 4 + 3, none⟩ (.int .i64 s.kind)
theorem grown_transM {w w' w'' : World} {row : Option Nat} (h : w.grownBy w' row) (k : w'.grownBy w'' row) : w.grownBy w'' row :=
  ⟨k.os.trans h.os, k.tape.trans h.tape, k.output.trans h.output, Nat.le_trans h.size k.size, fun j hj hne => (k.block j (Nat.lt_of_lt_of_le hj h.size) hne).trans (h.block j hj hne)⟩
theorem map_put {B : Nat} {w : World} {g gs : Nat} {sl : List SlotD} (h : IsMap B w g gs sl) {i : Nat} {s s' : SlotD} (hu : sl[i]? = some s) (hok : SlotOk s') :
    IsMap B (put4 w gs i s') g gs (sl.set i s') ∧ w.grownBy (put4 w gs i s') (some gs) := by
  have hi := (List.getElem?_eq_some_iff.1 hu).1
  have ho : SlotOk s := h.2.2.2.2.2 s (List.mem_of_getElem? hu)
  obtain ⟨p1, p2, p3, p4, p5, p6, p7, p8⟩ := ho
  obtain ⟨q1, q2, q3, q4, q5, q6, q7, q8⟩ := hok
  have s1 := map_store (j := 0) h hu (by decide) (.int .i64 s'.place) (s' := ⟨s'.place, s.version, s.links, s.kind⟩) rfl ⟨q1, q2, p3, p4, p5, p6, p7, p8⟩
  have s2 := map_store (j := 1) s1.1 (s := ⟨s'.place, s.version, s.links, s.kind⟩) (i := i) (by rw [List.getElem?_set_self hi]) (by decide) (.int .u32 s'.version) (s' := ⟨s'.place, s'.version, s.links, s.kind⟩) rfl ⟨q1, q2, q3, q4, p5, p6, p7, p8⟩
  have s3 := map_store (j := 2) s2.1 (s := ⟨s'.place, s'.version, s.links, s.kind⟩) (i := i) (by rw [List.getElem?_set_self (by rw [List.length_set]; exact hi)]) (by decide) (.int .i64 s'.links) (s' := ⟨s'.place, s'.version, s'.links, s.kind⟩) rfl ⟨q1, q2, q3, q4, q5, q6, p7, p8⟩
  have s4 := map_store (j := 3) s3.1 (s := ⟨s'.place, s'.version, s'.links, s.kind⟩) (i := i) (by rw [List.getElem?_set_self (by rw [List.length_set, List.length_set]; exact hi)]) (by decide) (.int .i64 s'.kind) (s' := s') rfl ⟨q1, q2, q3, q4, q5, q6, q7, q8⟩
  rw [List.set_set, List.set_set, List.set_set] at s4
  exact ⟨s4.1, grown_transM (grown_transM (grown_transM s1.2 s2.2) s3.2) s4.2⟩
def clampM (n : Int) : Int := min (max n 1) 200
def zeroS : SlotD := ⟨0, 0, 0, 0⟩
theorem info_slot : (Try.prog.info? 28).map (fun i => (i.zero, i.size, i.bytes)) = some (some (.agg #[.int .i64 0, .int .u32 0, .int .i64 0, .int .i64 0]), 4, 32) := by kernel_rfl
theorem slots_rows (sl : List SlotD) : ∀ p ∈ slotsV sl, p.length = 4 := by
  intro p hp
  unfold slotsV at hp
  rw [List.mem_map] at hp
  obtain ⟨u, _, rfl⟩ := hp
  rfl
theorem made_slots (n : Nat) : (madeCells #[.int .i64 0, .int .u32 0, .int .i64 0, .int .i64 0] (n * 4)).toList = flatR (slotsV (List.replicate n zeroS)) := by
  have hall := slots_rows (List.replicate n zeroS)
  apply List.ext_getElem?
  intro k
  rw [Array.getElem?_toList]
  by_cases hk : k < n * 4
  · have hd : k = (k / 4) * 4 + k % 4 := by omega
    have hq : k / 4 < n := by omega
    have hm : k % 4 < 4 := Nat.mod_lt _ (by decide)
    have h1 : (slotsV (List.replicate n zeroS))[k / 4]? = some (slotV zeroS) := slotsV_get (by rw [List.getElem?_replicate, if_pos hq])
    have h2 := flatR_get hall h1 hm
    rw [← hd] at h2
    rw [h2]
    unfold madeCells
    rw [Array.getElem?_map, Array.getElem?_range, if_pos hk]
    simp only [Option.map_some]
    show some ((#[Value.int .i64 0, Value.int .u32 0, Value.int .i64 0, Value.int .i64 0] : Array Value)[k % 4]!) = _
    obtain h | h | h | h : k % 4 = 0 ∨ k % 4 = 1 ∨ k % 4 = 2 ∨ k % 4 = 3 := by omega
    all_goals rw [h]; rfl
  · rw [Array.getElem?_eq_none (by rw [size_madeCells]; omega), List.getElem?_eq_none (by rw [flatR_length hall, slotsV_length, List.length_replicate]; omega)]
theorem run_make_rowS (n : Nat) (hn : n ≤ 200) (w : World) :
    (Instr.makeSlice 24 (.int .i64 (n : Int)) (.int .i64 (n : Int))).run Try.prog w = .ok (.slice (some ⟨w.heap.size, 0, none⟩) n n) (w.alloc (.cells (madeCells #[.int .i64 0, .int .u32 0, .int .i64 0, .int .i64 0] (n * 4)) 28)) := by
  obtain ⟨i0, hi, hz0, hz1, hz2⟩ := info_parts info_slot
  have hr := run_make (P := Try.prog) w 24 28 i0 (.agg #[.int .i64 0, .int .u32 0, .int .i64 0, .int .i64 0]) Try.underlying24 hi hz0 .i64 .i64 n n (by omega) (by omega) (by rw [hz2]; omega) (by omega)
  simp only [Int.toNat_natCast, hz1, Value.cells] at hr
  exact hr
def MNewPost (w : World) (sl : List SlotD) (e : Ending) (w' : World) : Prop := ∃ g gs, e = .returned (.pointer (some ⟨g, 0, none⟩)) ∧ IsMap w.heap.size w' g gs sl ∧ Below w.heap.size w w'
set_option maxHeartbeats 1600000 in
theorem mnew_is (n : Int) (w : World) (m : Nat) (hm : clampM n = m) : Calls Try.prog 16 #[.int .i64 n] w (MNewPost w (List.replicate m zeroS)) := by
  have hm2 : m ≤ 200 := by unfold clampM at hm; omega
  have hm1 : 1 ≤ m := by unfold clampM at hm; omega
  have hmk := fun W => run_make_rowS m hm2 W
  have hm' : min (max n 1) 200 = (m : Int) := hm
  have hok : MapOk (List.replicate m zeroS) := ⟨by rw [List.length_replicate]; exact hm1, by rw [List.length_replicate]; exact hm2, fun s hs => by rw [List.eq_of_mem_replicate hs]; exact ⟨by decide, by decide, by decide, by decide, by decide, by decide, by decide, by decide⟩⟩
  have HOK := Lib.hid hok
  clear hm hok
  go_enter Try.func16, Try.ntmps16
  go_wp2
  go_ret
  refine ⟨w.heap.size + 1, w.heap.size, rfl, ⟨?_, ?_, Nat.le_succ _, HOK.out⟩, ((Below.refl _ _).alloc (Nat.le_refl _) _).alloc (by simp) _⟩
  · rw [heap_alloc2_new, List.length_replicate]
  · have hl : (slotsV (List.replicate m zeroS)).length = m := by rw [slotsV_length, List.length_replicate]
    have hnew := OwnsR'.new (B := w.heap.size) (w := w) (e := 28) (k := 4) (l := slotsV (List.replicate m zeroS)) (slots_rows _) (Nat.le_refl _) (by rw [hl]; unfold maxLen; omega) (made_slots m)
    rw [hl] at hnew
    rw [List.length_replicate]
    exact hnew.alloc _
theorem mhas_yes {B : Nat} {w : World} {g gs : Nat} {sl : List SlotD} (h : IsMap B w g gs sl) (i : Nat) (hi : i < sl.length) :
    Calls Try.prog 61 #[.pointer (some ⟨g, 0, none⟩), .int .i64 ((i : Int) + 1)] w fun e w' => e = .returned (.bool true) ∧ w = w' := by
  have c0 := map_facts h
  clear h
  have h1 : (1 : Int) ≤ (i : Int) + 1 := by omega
  have h2 : (i : Int) + 1 ≤ (sl.length : Int) := by omega
  go_enter Try.func61, Try.ntmps61
  go_wp2
  go_ret
  exact ⟨rfl, rfl⟩
theorem mhas_no {B : Nat} {w : World} {g gs : Nat} {sl : List SlotD} (h : IsMap B w g gs sl) (n : Int) (hn : n < 1 ∨ (sl.length : Int) < n) :
    Calls Try.prog 61 #[.pointer (some ⟨g, 0, none⟩), .int .i64 n] w fun e w' => e = .returned (.bool false) ∧ w = w' := by
  have c0 := map_facts h
  clear h
  by_cases h0 : n < 1
  · have h1 : ¬ (1 : Int) ≤ n := by omega
    go_enter Try.func61, Try.ntmps61
    go_wp2
    go_ret
    exact ⟨rfl, rfl⟩
  · have h1 : (1 : Int) ≤ n := by omega
    have h2 : ¬ n ≤ (sl.length : Int) := by omega
    clear hn
    go_enter Try.func61, Try.ntmps61
    go_wp2
    go_ret
    exact ⟨rfl, rfl⟩
theorem among_yes (n a b : Int) (w : World) (h1 : a ≤ n) (h2 : n ≤ b) : Calls Try.prog 55 #[.int .i64 n, .int .i64 a, .int .i64 b] w fun e w' => e = .returned (.bool true) ∧ w = w' := by
  go_enter Try.func55, Try.ntmps55
  go_wp2
  go_ret
  exact ⟨rfl, rfl⟩
theorem among_no (n a b : Int) (w : World) (h : n < a ∨ b < n) : Calls Try.prog 55 #[.int .i64 n, .int .i64 a, .int .i64 b] w fun e w' => e = .returned (.bool false) ∧ w = w' := by
  by_cases h0 : n < a
  · have h1 : ¬ a ≤ n := by omega
    go_enter Try.func55, Try.ntmps55
    go_wp2
    go_ret
    exact ⟨rfl, rfl⟩
  · have h1 : a ≤ n := by omega
    have h2 : ¬ n ≤ b := by omega
    clear h
    go_enter Try.func55, Try.ntmps55
    go_wp2
    go_ret
    exact ⟨rfl, rfl⟩
theorem free_is (s : SlotD) (w : World) : Calls Try.prog 60 #[.agg #[.int .i64 s.place, .int .u32 s.version, .int .i64 s.links, .int .i64 s.kind]] w fun e w' => e = .returned (.bool (s.kind == 0)) ∧ Below w.heap.size w w' := by
  go_enter Try.func60, Try.ntmps60
  go_wp2
  go_ret
  exact ⟨rfl, below_box _ _⟩
theorem enters_free (args : Array Value) (w : World) : (callFunc 60 args).run Try.prog w = .ok (.enter 60 args) w := enters_of Try.func60 (by kernel_rfl) rfl args w
theorem enters_used (args : Array Value) (w : World) : (callFunc 96 args).run Try.prog w = .ok (.enter 96 args) w := enters_of Try.func96 (by kernel_rfl) rfl args w
theorem free_pred (w : World) : PredV 60 #[] (fun s => .agg (slotV s).toArray) (fun _ => True) (fun s => s.kind == 0) w := fun W s _ _ => free_is s W
theorem used_pred (w : World) : PredV 96 #[] (fun s => .agg (slotV s).toArray) (fun _ => True) (fun s => !(s.kind == 0)) w := by
  intro W s _ hB
  clear hB
  show Calls Try.prog 96 #[.agg #[.int .i64 s.place, .int .u32 s.version, .int .i64 s.links, .int .i64 s.kind]] W _
  go_enter Try.func96, Try.ntmps96
  go_wp2_with fail
  refine (free_is s _).mono ?_
  rintro e w1 ⟨rfl, b1⟩
  go_wp2
  go_ret
  exact ⟨rfl, below_next (below_box _ _) b1⟩
theorem map_reads {B : Nat} {w : World} {g gs : Nat} {sl : List SlotD} (h : IsMap B w g gs sl) : ReadsR w (some ⟨gs, 0, none⟩) 4 (slotsV sl) := by
  obtain ⟨a, c, hv, hr, _, _⟩ := h.2.1.reads
  obtain ⟨rfl, _, _⟩ := Value.slice.inj hv
  exact hr
end Go.Proofs.Ytgakidimipipeaa

namespace Go.Proofs.Ytgakidimipipeaa
open Go.RowKit Go.Sort
set_option linter.unusedVariables false
set_option linter.unusedSimpArgs false
set_option maxRecDepth 100000

set_option maxHeartbeats 1000000 in
theorem mget_yes {B : Nat} {w : World} {g gs : Nat} {sl : List SlotD} (h : IsMap B w g gs sl) (i : Nat) (s : SlotD) (hu : sl[i]? = some s) :
    Calls Try.prog 20 #[.pointer (some ⟨g, 0, none⟩), .int .i64 ((i : Int) + 1)] w fun e w' => e = .returned (.tuple #[.agg #[.int .i64 s.place, .int .u32 s.version, .int .i64 s.links, .int .i64 s.kind], .int .i64 0]) ∧ Below w.heap.size w w' := by
  have h2 := h.below (below_box w (.cells #[.int .i64 0, .int .u32 0, .int .i64 0, .int .i64 0] 28))
  have c0 := map_facts h2
  obtain ⟨r0, r1, r2, r3⟩ := map_row h2 hu
  have hi := (List.getElem?_eq_some_iff.1 hu).1
  obtain ⟨l1, l2⟩ := map_lt h
  have H2 := Lib.hid h2
  have hlen := h.2.2.2.2.1
  have hi2 : (i : Int) < (sl.length : Int) := by omega
  have hi0 : (0 : Int) ≤ (i : Int) := by omega
  have HI := Lib.hid hi
  have s1 : IntKind.i64.wrap ((i : Int) + 1 - 1) = (i : Int) := by rw [IntWalk.i64_in _ (by omega)]; omega
  have s2 : (i : Int) + 1 - 1 = (i : Int) := by omega
  clear h2 h hu hi
  go_enter Try.func20, Try.ntmps20
  go_wp2_with fail
  refine (mhas_yes H2.out i HI.out).mono ?_
  rintro e w' ⟨rfl, rfl⟩
  go_wp2
  refine bodyPost_ret (v := .tuple #[.agg #[.int .i64 s.place, .int .u32 s.version, .int .i64 s.links, .int .i64 s.kind], .int .i64 0]) (by simp [results, Try.results20, go_sem]) rfl ⟨rfl, (Below.refl _ _).alloc (Nat.le_refl _) _⟩
def MapPost (B : Nat) (w : World) (g gs : Nat) (sl : List SlotD) (v : Value) (e : Ending) (w' : World) : Prop :=
  e = .returned v ∧ IsMap B w' g gs sl ∧ w.grownBy w' (some gs)
/-- The version behind. -/
def nextV (v : Int) : Int := (v + 1) % 4294967296
theorem grown_below {w w1 w' : World} {row : Option Nat} (b : Below w.heap.size w w1) (h : w1.grownBy w' row) : w.grownBy w' row :=
  ⟨h.os.trans b.os, h.tape.trans b.tape, h.output.trans b.output, Nat.le_trans b.size h.size, fun k hk hne => (h.block k (Nat.lt_of_lt_of_le hk b.size) hne).trans (b.block k hk)⟩
set_option maxHeartbeats 2000000 in
theorem malloc_yes {B : Nat} {w : World} {g gs : Nat} {sl : List SlotD} (h : IsMap B w g gs sl) (i : Nat) (s : SlotD) (hu : sl[i]? = some s) (hf : firstI (fun s : SlotD => s.kind == 0) sl = (i : Int)) (kd : Int) (hk1 : 1 ≤ kd) (hk2 : kd ≤ 2) :
    Calls Try.prog 19 #[.pointer (some ⟨g, 0, none⟩), .int .i64 kd] w (MapPost B w g gs (sl.set i ⟨0, nextV s.version, 0, kd⟩) (.tuple #[.int .i64 ((i : Int) + 1), .int .u32 (nextV s.version), .int .i64 0])) := by
  have c0 := map_facts h
  have hi := (List.getElem?_eq_some_iff.1 hu).1
  have hlen := h.2.2.2.2.1
  have ho : SlotOk s := h.2.2.2.2.2 s (List.mem_of_getElem? hu)
  have hv0 := ho.2.2.1
  have hv1 := ho.2.2.2.1
  have hnv : 0 ≤ nextV s.version ∧ nextV s.version < 4294967296 := by unfold nextV; omega
  have HIX := Lib.hid (index_slot sl (some ⟨gs, 0, none⟩) sl.length w (map_reads h) (by omega) (fun _ => True) (fun _ _ => trivial) (fun s => s.kind == 0) 60 #[] enters_free (free_pred w))
  rw [hf] at HIX
  have H := Lib.hid h
  have HU := Lib.hid hu
  have HNV := Lib.hid hnv
  have hi2 : (i : Int) < (sl.length : Int) := by omega
  have hi0 : (0 : Int) ≤ (i : Int) := by omega
  have hin : ¬ (i : Int) < 0 := by omega
  have hI : (i : Int) ≤ 200 := by omega
  have HI := Lib.hid hi
  clear h hu hf ho hnv hi
  go_enter Try.func19, Try.ntmps19
  go_wp2_with fail
  refine (among_yes kd 1 2 w hk1 hk2).mono ?_
  rintro e w' ⟨rfl, rfl⟩
  go_wp2_with fail
  refine HIX.out.mono ?_
  rintro e w1 ⟨rfl, b1⟩
  have h1 := H.out.below b1
  have HB1 := Lib.hid b1
  have c1 := map_facts h1
  obtain ⟨r0, r1, r2, r3⟩ := map_row h1 HU.out
  have f0 := map_free h1 (i * 4)
  have f1 := map_free h1 (i * 4 + 1)
  have f2 := map_free h1 (i * 4 + 2)
  have f3 := map_free h1 (i * 4 + 3)
  have H1 := Lib.hid h1
  obtain ⟨nv, hnv⟩ : ∃ nv, nextV s.version = nv := ⟨_, rfl⟩
  have hwv : IntKind.u32.wrap (s.version + 1) = nv := by
    rw [← hnv]
    unfold nextV
    rw [IntKind.wrap_u32]
  have HPUT := Lib.hid (fun (W : World) (hW : IsMap B W g gs sl) => map_put hW HU.out (s' := ⟨0, nextV s.version, 0, kd⟩) ⟨by show (0:Int) ≤ 0; omega, by show (0:Int) ≤ 65535; omega, HNV.out.1, HNV.out.2, by show (0:Int) ≤ 0; omega, by show (0:Int) ≤ 65535; omega, by show 0 ≤ kd; omega, hk2⟩)
  have HN := Lib.hid hnv
  rw [hnv] at HPUT
  have hmp := HPUT.out _ H1.out
  have HNEW := Lib.hid (hmp.1.below (below_drew _))
  have HGR := Lib.hid hmp.2
  obtain ⟨W2, hW2⟩ : ∃ W2, W2 = (put4 w1 gs i ⟨0, nv, 0, kd⟩).drew := ⟨_, rfl⟩
  rw [← hW2] at HNEW
  have HGR2 : Hid (w1.grownBy W2 (some gs)) := by rw [hW2]; exact Lib.hid (grown_to_drew HGR.out)
  simp only [put4] at hW2
  clear b1 h1 hnv c0 hmp HGR
  go_wp2
  go_region
  rw [← hW2]
  clear hW2 c1 r0 r1 r2 r3 f0 f1 f2 f3 hwv
  have c1 := map_facts HNEW.out
  rw [List.length_set] at c1
  obtain ⟨r0, r1, r2, r3⟩ := map_row HNEW.out (List.getElem?_set_self HI.out)
  have hwi : IntKind.i64.wrap ((i : Int) + 1) = (i : Int) + 1 := IntWalk.i64_in _ (by omega)
  have HRES : Hid (IsMap B W2 g gs (sl.set i ⟨0, nv, 0, kd⟩) ∧ w.grownBy W2 (some gs)) := Lib.hid ⟨HNEW.out, grown_below HB1.out HGR2.out⟩
  go_wp2
  go_quiet (fail)
  clear hwi
  go_wp2
  go_ret3
  have hh := HRES.out
  rw [HN.out]
  exact ⟨rfl, hh.1.below (below_drewN _ nq), grown_to_drewN hh.2⟩
theorem malloc_bad {w : World} {g : Nat} (kd : Int) (hk : kd < 1 ∨ 2 < kd) :
    Calls Try.prog 19 #[.pointer (some ⟨g, 0, none⟩), .int .i64 kd] w fun e w' => e = .returned (.tuple #[.int .i64 0, .int .u32 0, .int .i64 1]) ∧ w = w' := by
  have HK := Lib.hid hk
  clear hk
  go_enter Try.func19, Try.ntmps19
  go_wp2_with fail
  refine (among_no kd 1 2 w HK.out).mono ?_
  rintro e w' ⟨rfl, rfl⟩
  go_wp2
  go_ret3
  exact ⟨rfl, rfl⟩
set_option maxHeartbeats 1000000 in
theorem mused_yes {B : Nat} {w : World} {g gs : Nat} {sl : List SlotD} (h : IsMap B w g gs sl) (i : Nat) (s : SlotD) (hu : sl[i]? = some s) (hk : (s.kind == 0) = false) :
    Calls Try.prog 65 #[.pointer (some ⟨g, 0, none⟩), .int .i64 ((i : Int) + 1)] w fun e w' => e = .returned (.tuple #[.pointer (some ⟨gs, i * 4, none⟩), .int .i64 0]) ∧ Below w.heap.size w w' := by
  have c0 := map_facts h
  obtain ⟨r0, r1, r2, r3⟩ := map_row h hu
  have hi := (List.getElem?_eq_some_iff.1 hu).1
  have hlen := h.2.2.2.2.1
  have hi2 : (i : Int) < (sl.length : Int) := by omega
  have hi0 : (0 : Int) ≤ (i : Int) := by omega
  have hwi : IntKind.i64.wrap ((i : Int) + 1 - 1) = (i : Int) := by rw [show (i : Int) + 1 - 1 = (i : Int) by omega]; exact IntWalk.i64_in _ (by omega)
  have hI : (i : Int) ≤ 200 := by omega
  have H := Lib.hid h
  have HI := Lib.hid hi
  have HK := Lib.hid hk
  clear h hu hi hk
  go_enter Try.func65, Try.ntmps65
  go_wp2_with fail
  refine (mhas_yes H.out i HI.out).mono ?_
  rintro e w' ⟨rfl, rfl⟩
  go_wp2_with fail
  refine (free_is s w).mono ?_
  rintro e w' ⟨rfl, b1⟩
  have hk := HK.out
  have HB := Lib.hid b1
  clear b1
  go_wp2
  go_ret2
  exact ⟨rfl, HB.out⟩
end Go.Proofs.Ytgakidimipipeaa

namespace Go.Proofs.Ytgakidimipipeaa
set_option linter.unusedVariables false

/-- Two lists in their order as one. -/
def mergeL (lt : Nat → Nat → Bool) : List Nat → List Nat → List Nat
  | [], s => s
  | a :: f, s => s.takeWhile (fun b => lt b a) ++ a :: mergeL lt f (s.dropWhile (fun b => lt b a))
def sortL (lt : Nat → Nat → Bool) (l : List Nat) : List Nat :=
  if h : l.length < 2 then l else mergeL lt (sortL lt (l.take (l.length / 2))) (sortL lt (l.drop (l.length / 2)))
termination_by l.length
decreasing_by
  · rw [List.length_take]; omega
  · rw [List.length_drop]; omega
/-- The first one than which none is better. -/
def bestL (lt : Nat → Nat → Bool) (b : Nat) (l : List Nat) : Nat := l.foldl (fun b i => if lt i b then i else b) b
def pickL (lt : Nat → Nat → Bool) : List Nat → Option Nat
  | [] => none
  | a :: l => some (bestL lt a l)
def selL (lt : Nat → Nat → Bool) : Nat → List Nat → List Nat
  | 0, _ => []
  | n + 1, l => match pickL lt l with
    | none => []
    | some b => b :: selL lt n (l.erase b)

structure Weak (lt : Nat → Nat → Bool) (S : Nat → Prop) : Prop where
  irr : ∀ a, S a → lt a a = false
  tr : ∀ a b c, S a → S b → S c → lt a b = true → lt b c = true → lt a c = true
  neg : ∀ a b c, S a → S b → S c → lt a b = false → lt b c = false → lt a c = false
/-- a is ahead of b. -/
def Ahead (lt : Nat → Nat → Bool) (a b : Nat) : Prop := lt a b = true ∨ (lt b a = false ∧ a < b)
theorem Weak.asym {lt : Nat → Nat → Bool} {S : Nat → Prop} (W : Weak lt S) {a b : Nat} (ha : S a) (hb : S b) (h : lt a b = true) : lt b a = false := by
  cases h2 : lt b a with
  | false => rfl
  | true => have := W.tr a b a ha hb ha h h2; rw [W.irr a ha] at this; cases this
theorem Ahead.trans {lt : Nat → Nat → Bool} {S : Nat → Prop} (W : Weak lt S) {a b c : Nat} (ha : S a) (hb : S b) (hc : S c) (h : Ahead lt a b) (k : Ahead lt b c) : Ahead lt a c := by
  have key : ∀ x y z, S x → S y → S z → lt x y = true → lt z y = false → lt x z = true := fun x y z hx hy hz h1 h2 => by
    cases h3 : lt x z with
    | true => rfl
    | false => have := W.neg x z y hx hz hy h3 h2; rw [h1] at this; cases this
  rcases h with h | ⟨h, hl⟩
  · rcases k with k | ⟨k, kl⟩
    · exact .inl (W.tr a b c ha hb hc h k)
    · exact .inl (key a b c ha hb hc h k)
  · rcases k with k | ⟨k, kl⟩
    · cases h3 : lt a c with
      | true => exact .inl h3
      | false =>
        -- b < c, not b < a
        have := W.neg b a c hb ha hc h h3
        rw [k] at this; cases this
    · exact .inr ⟨W.neg c b a hc hb ha k h, by omega⟩
theorem Ahead.asym {lt : Nat → Nat → Bool} {S : Nat → Prop} (W : Weak lt S) {a b : Nat} (ha : S a) (hb : S b) (h : Ahead lt a b) (k : Ahead lt b a) : False := by
  rcases h with h | ⟨h, hl⟩
  · rcases k with k | ⟨k, kl⟩
    · rw [W.asym ha hb h] at k; cases k
    · rw [h] at k; cases k
  · rcases k with k | ⟨k, kl⟩
    · rw [h] at k; cases k
    · omega
theorem Ahead.of_not {lt : Nat → Nat → Bool} {a b : Nat} (h : lt b a = false) (hl : a < b) : Ahead lt a b := .inr ⟨h, hl⟩

theorem mergeL_perm (lt : Nat → Nat → Bool) : ∀ f s, (mergeL lt f s).Perm (f ++ s)
  | [], s => List.Perm.refl _
  | a :: f, s => by
    have ih := mergeL_perm lt f (s.dropWhile (fun b => lt b a))
    unfold mergeL
    have e : s = s.takeWhile (fun b => lt b a) ++ s.dropWhile (fun b => lt b a) := (List.takeWhile_append_dropWhile).symm
    generalize s.takeWhile (fun b => lt b a) = t at *
    generalize s.dropWhile (fun b => lt b a) = d at *
    subst e
    have h1 : (t ++ a :: mergeL lt f d).Perm (t ++ a :: (f ++ d)) := List.Perm.append_left t (List.Perm.cons a ih)
    refine h1.trans ?_
    have h2 : (t ++ a :: (f ++ d)).Perm (a :: (t ++ (f ++ d))) := List.perm_middle
    refine h2.trans ?_
    show (a :: (t ++ (f ++ d))).Perm (a :: (f ++ (t ++ d)))
    refine List.Perm.cons a ?_
    rw [← List.append_assoc, ← List.append_assoc]
    exact List.Perm.append_right d List.perm_append_comm
theorem sortL_perm (lt : Nat → Nat → Bool) (l : List Nat) : (sortL lt l).Perm l := by
  induction l using sortL.induct with
  | case1 l h => unfold sortL; rw [dif_pos h]
  | case2 l h ih1 ih2 =>
    unfold sortL
    rw [dif_neg h]
    refine (mergeL_perm lt _ _).trans ?_
    refine (List.Perm.append ih1 ih2).trans ?_
    rw [List.take_append_drop]
theorem mem_takeWhile_of {p : Nat → Bool} : ∀ {l : List Nat} {x : Nat}, x ∈ l.takeWhile p → p x = true ∧ x ∈ l
  | [], x, h => by cases h
  | y :: l, x, h => by
    rw [List.takeWhile_cons] at h
    split at h
    · rcases List.mem_cons.1 h with rfl | h
      · exact ⟨‹_›, by simp⟩
      · have := mem_takeWhile_of h; exact ⟨this.1, by simp [this.2]⟩
    · cases h
theorem head_dropWhile_of {p : Nat → Bool} : ∀ {l : List Nat} {x : Nat} {r : List Nat}, l.dropWhile p = x :: r → p x = false
  | [], x, r, h => by cases h
  | y :: l, x, r, h => by
    rw [List.dropWhile_cons] at h
    split at h
    · exact head_dropWhile_of h
    · have hx := (List.cons.inj h).1
      rw [← hx]
      simpa using ‹¬ p y = true›
theorem mem_dropWhile_of {p : Nat → Bool} {l : List Nat} {x : Nat} (h : x ∈ l.dropWhile p) : x ∈ l := by
  have e := List.takeWhile_append_dropWhile (p := p) (l := l)
  rw [← e]; exact List.mem_append.2 (.inr h)
theorem mergeL_sorted {lt : Nat → Nat → Bool} {S : Nat → Prop} (W : Weak lt S) : ∀ f s, (∀ a ∈ f, S a) → (∀ b ∈ s, S b) → (∀ a ∈ f, ∀ b ∈ s, a < b) → f.Pairwise (Ahead lt) → s.Pairwise (Ahead lt) → (mergeL lt f s).Pairwise (Ahead lt)
  | [], s, _, _, _, _, h => h
  | a :: f, s, hf, hs, hl, pf, ps => by
    obtain ⟨pa, pf⟩ := List.pairwise_cons.1 pf
    have hsp : ∀ b ∈ s.dropWhile (fun b => lt b a), b ∈ s := fun b hb => mem_dropWhile_of hb
    have pd : (s.takeWhile (fun b => lt b a) ++ s.dropWhile (fun b => lt b a)).Pairwise (Ahead lt) := by rw [List.takeWhile_append_dropWhile]; exact ps
    obtain ⟨pt, pdr, ptd⟩ := List.pairwise_append.1 pd
    have ih := mergeL_sorted W f (s.dropWhile (fun b => lt b a)) (fun x hx => hf x (by simp [hx])) (fun x hx => hs x (hsp x hx)) (fun x hx y hy => hl x (by simp [hx]) y (hsp y hy)) pf pdr
    have hpm := mergeL_perm lt f (s.dropWhile (fun b => lt b a))
    have hab : ∀ y ∈ s.dropWhile (fun b => lt b a), Ahead lt a y := by
      intro y hy
      cases hd : s.dropWhile (fun b => lt b a) with
      | nil => rw [hd] at hy; cases hy
      | cons d r =>
        have h0 := head_dropWhile_of hd
        have hds : d ∈ s := hsp d (by rw [hd]; simp)
        have h1 : Ahead lt a d := Ahead.of_not h0 (hl a (by simp) d hds)
        rw [hd] at hy pdr
        rcases List.mem_cons.1 hy with rfl | hy
        · exact h1
        · exact Ahead.trans W (hf a (by simp)) (hs d hds) (hs y (hsp y (by rw [hd]; simp [hy]))) h1 ((List.pairwise_cons.1 pdr).1 y hy)
    have haall : ∀ y ∈ mergeL lt f (s.dropWhile (fun b => lt b a)), Ahead lt a y := by
      intro y hy
      rcases List.mem_append.1 (hpm.mem_iff.1 hy) with hy | hy
      · exact pa y hy
      · exact hab y hy
    unfold mergeL
    refine List.pairwise_append.2 ⟨pt, List.pairwise_cons.2 ⟨haall, ih⟩, ?_⟩
    intro x hx y hy
    have hx' := mem_takeWhile_of hx
    have hxa : Ahead lt x a := .inl hx'.1
    rcases List.mem_cons.1 hy with rfl | hy
    · exact hxa
    · rcases List.mem_append.1 (hpm.mem_iff.1 hy) with hy | hy
      · exact Ahead.trans W (hs x hx'.2) (hf a (by simp)) (hf y (by simp [hy])) hxa (pa y hy)
      · exact ptd x hx y hy
theorem sortL_sorted {lt : Nat → Nat → Bool} {S : Nat → Prop} (W : Weak lt S) (l : List Nat) : (∀ a ∈ l, S a) → l.Pairwise (· < ·) → (sortL lt l).Pairwise (Ahead lt) := by
  induction l using sortL.induct with
  | case1 l h =>
    intro _ _
    unfold sortL; rw [dif_pos h]
    match l, h with
    | [], _ => exact List.Pairwise.nil
    | [a], _ => exact List.pairwise_cons.2 ⟨by simp, List.Pairwise.nil⟩
  | case2 l h ih1 ih2 =>
    intro hS hl
    unfold sortL
    rw [dif_neg h]
    have hl' : (l.take (l.length / 2) ++ l.drop (l.length / 2)).Pairwise (· < ·) := by rw [List.take_append_drop]; exact hl
    obtain ⟨p1, p2, p3⟩ := List.pairwise_append.1 hl'
    have m1 : ∀ a ∈ l.take (l.length / 2), a ∈ l := fun a ha => List.mem_of_mem_take ha
    have m2 : ∀ a ∈ l.drop (l.length / 2), a ∈ l := fun a ha => List.mem_of_mem_drop ha
    have q1 := sortL_perm lt (l.take (l.length / 2))
    have q2 := sortL_perm lt (l.drop (l.length / 2))
    exact mergeL_sorted W _ _ (fun a ha => hS a (m1 a (q1.mem_iff.1 ha))) (fun a ha => hS a (m2 a (q2.mem_iff.1 ha)))
      (fun a ha b hb => p3 a (q1.mem_iff.1 ha) b (q2.mem_iff.1 hb)) (ih1 (fun a ha => hS a (m1 a ha)) p1) (ih2 (fun a ha => hS a (m2 a ha)) p2)

theorem bestL_is {lt : Nat → Nat → Bool} {S : Nat → Prop} (W : Weak lt S) : ∀ (l : List Nat) (b : Nat) (done : List Nat), S b → (∀ x ∈ l, S x) → (∀ x ∈ done, S x) → b ∈ done → (∀ x ∈ done, x = b ∨ Ahead lt b x) → (∀ x ∈ done, ∀ y ∈ l, x < y) → l.Pairwise (· < ·) →
    bestL lt b l ∈ done ++ l ∧ ∀ x ∈ done ++ l, x = bestL lt b l ∨ Ahead lt (bestL lt b l) x
  | [], b, done, hb, _, _, hm, hd, _, _ => by rw [List.append_nil]; exact ⟨hm, hd⟩
  | i :: l, b, done, hb, hl, hdS, hm, hd, hlt, pl => by
    have hi : S i := hl i (by simp)
    obtain ⟨pi, pl⟩ := List.pairwise_cons.1 pl
    have hbi : b < i := hlt b hm i (by simp)
    have e : bestL lt b (i :: l) = bestL lt (if lt i b then i else b) l := rfl
    have ea : done ++ i :: l = (done ++ [i]) ++ l := by simp
    rw [e, ea]
    refine bestL_is W l _ (done ++ [i]) ?_ (fun x hx => hl x (by simp [hx])) ?_ ?_ ?_ ?_ pl
    · split <;> assumption
    · intro x hx
      rcases List.mem_append.1 hx with hx | hx
      · exact hdS x hx
      · rw [List.mem_singleton.1 hx]; exact hi
    · split
      · simp
      · simp [hm]
    · intro x hx
      rcases List.mem_append.1 hx with hx | hx
      · split
        · rename_i h
          right
          rcases hd x hx with rfl | h2
          · exact .inl h
          · exact Ahead.trans W hi hb (hdS x hx) (.inl h) h2
        · exact hd x hx
      · rw [List.mem_singleton.1 hx]
        split
        · left; rfl
        · right; exact Ahead.of_not (by simpa using ‹¬ lt i b = true›) hbi
    · intro x hx y hy
      rcases List.mem_append.1 hx with hx | hx
      · exact hlt x hx y (by simp [hy])
      · rw [List.mem_singleton.1 hx]; exact pi y hy
theorem pickL_is {lt : Nat → Nat → Bool} {S : Nat → Prop} (W : Weak lt S) {l : List Nat} {b : Nat} (hS : ∀ x ∈ l, S x) (pl : l.Pairwise (· < ·)) (h : pickL lt l = some b) : b ∈ l ∧ ∀ x ∈ l, x = b ∨ Ahead lt b x := by
  match l, h with
  | a :: l, h =>
    obtain ⟨p1, p2⟩ := List.pairwise_cons.1 pl
    have := bestL_is W l a [a] (hS a (by simp)) (fun x hx => hS x (by simp [hx])) (by simpa using hS a (by simp)) (by simp) (by simp) (by simpa using p1) p2
    have e : bestL lt a l = b := Option.some.inj h
    rw [e] at this
    exact this
theorem selL_is {lt : Nat → Nat → Bool} {S : Nat → Prop} (W : Weak lt S) : ∀ (n : Nat) (l : List Nat), l.length ≤ n → (∀ x ∈ l, S x) → l.Pairwise (· < ·) → (selL lt n l).Perm l ∧ (selL lt n l).Pairwise (Ahead lt)
  | 0, l, hn, _, _ => by
    have : l = [] := List.eq_nil_of_length_eq_zero (by omega)
    subst this
    exact ⟨List.Perm.refl _, List.Pairwise.nil⟩
  | n + 1, l, hn, hS, pl => by
    unfold selL
    cases hp : pickL lt l with
    | none =>
      match l, hp with
      | [], _ => exact ⟨List.Perm.refl _, List.Pairwise.nil⟩
    | some b =>
      obtain ⟨hb, hall⟩ := pickL_is W hS pl hp
      have hsub : ∀ x ∈ l.erase b, x ∈ l := fun x hx => List.mem_of_mem_erase hx
      have hlen := List.length_erase_of_mem hb
      have hpos : 0 < l.length := List.length_pos_of_mem hb
      obtain ⟨q1, q2⟩ := selL_is W n (l.erase b) (by omega) (fun x hx => hS x (hsub x hx)) (pl.sublist List.erase_sublist)
      refine ⟨(List.Perm.cons b q1).trans (List.perm_cons_erase hb).symm, List.pairwise_cons.2 ⟨?_, q2⟩⟩
      intro x hx
      have hx' := q1.mem_iff.1 hx
      rcases hall x (hsub x hx') with rfl | h
      · exfalso
        have hnd : l.Nodup := pl.imp (fun h => by omega)
        exact (List.Nodup.mem_erase_iff hnd).1 hx' |>.1 rfl
      · exact h
/-- Both ways come to one list. -/
theorem sortL_selL {lt : Nat → Nat → Bool} {S : Nat → Prop} (W : Weak lt S) {l : List Nat} (hS : ∀ x ∈ l, S x) (pl : l.Pairwise (· < ·)) {n : Nat} (hn : l.length ≤ n) : sortL lt l = selL lt n l := by
  obtain ⟨q1, q2⟩ := selL_is W n l hn hS pl
  have r1 := sortL_perm lt l
  have r2 := sortL_sorted W l hS pl
  refine List.Perm.eq_of_pairwise ?_ r2 q2 (r1.trans q1.symm)
  intro a b ha hb h1 h2
  exact (Ahead.asym W (hS a (r1.mem_iff.1 ha)) (hS b (q1.mem_iff.1 hb)) h1 h2).elim
theorem sortL_length (lt : Nat → Nat → Bool) (l : List Nat) : (sortL lt l).length = l.length := (sortL_perm lt l).length_eq
end Go.Proofs.Ytgakidimipipeaa
