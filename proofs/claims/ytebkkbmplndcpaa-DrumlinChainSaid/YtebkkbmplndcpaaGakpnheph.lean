/- Open files in memory, and the program's small calls on them, by their walks. Open files: find, Get, Ref, Close, Move, Open, Count. Open files: Ref, Move, Close, Open, Count. -/
import Derived.Test.YtebkkbmplndcpaaGoldhionn
import Derived.Test.YtebkkbmplndcpaaGbgmncbfe
import Derived.Test.YtebkkbmplndcpaaGhbmgmnek
import Derived.Laws.MakeOwn
import Derived.Lib.MinMax
import Derived.RegionTactic
import Derived.ChangeAlike
import Derived.IntWalk
import Derived.Deep.QuietTactic
import Derived.BigQuiet
namespace Go.Proofs.Ytebkkbmplndcpaa
open Go.RowKit Go.Sort
set_option linter.unusedVariables false
set_option linter.unusedSimpArgs false
set_option maxRecDepth 100000

/-- An open file. -/
structure FileD where
  kind : Int
  num : Int
  at_ : Int
  flags : Int
  refs : Int
deriving DecidableEq
def fileV (u : FileD) : List Value := [.int .i64 u.kind, .int .i64 u.num, .int .i64 u.at_, .int .i64 u.flags, .int .i64 u.refs]
def filesV (l : List FileD) : List (List Value) := l.map fileV
theorem filesV_length (l : List FileD) : (filesV l).length = l.length := by unfold filesV; rw [List.length_map]
theorem filesV_get {l : List FileD} {i : Nat} {u : FileD} (h : l[i]? = some u) : (filesV l)[i]? = some (fileV u) := by unfold filesV; rw [List.getElem?_map, h]; rfl
theorem filesV_one (l : List FileD) : OneRows (filesV l) := by
  intro p hp u hu
  unfold filesV at hp
  obtain ⟨x, _, rfl⟩ := List.mem_map.1 hp
  simp only [fileV, List.mem_cons, List.not_mem_nil, or_false] at hu
  rcases hu with rfl | rfl | rfl | rfl | rfl <;> rfl
theorem filesV_set (l : List FileD) (i : Nat) (u : FileD) : (filesV l).set i (fileV u) = filesV (l.set i u) := by unfold filesV; rw [List.map_set]
def zeroF : FileD := ⟨0, 0, 0, 0, 0⟩
def knownB (o : FileD) : Bool := decide (0 < o.refs)
def IsFiles (B : Nat) (w : World) (g gs : Nat) (fl : List FileD) : Prop :=
  w.heap[g]? = some (.cells #[.slice (some ⟨gs, 0, none⟩) fl.length fl.length] 99 (0, 0)) ∧ OwnsR' B w 58 5 (.slice (some ⟨gs, 0, none⟩) fl.length fl.length) (filesV fl) ∧ B ≤ g ∧ 1 ≤ fl.length ∧ fl.length ≤ 64
theorem OwnsR'.apartF {B : Nat} {w : World} {e t : TypeId} {k : Nat} {v : Value} {l : List (List Value)} {g : Nat} {C : Array Value} {fr : Nat × Nat} (h : OwnsR' B w e k v l) (hg : w.heap[g]? = some (.cells C t fr)) (hne : e ≠ t) : v.ownBlock ≠ some g := by
  obtain ⟨_, _, h⟩ := h
  rcases h with ⟨rfl, _⟩ | ⟨g', cap, cur, rfl, _, hg', _⟩
  · intro h; cases h
  · intro h
    obtain rfl : g' = g := by simpa [Value.ownBlock] using h
    rw [hg] at hg'
    simp at hg'
    exact hne hg'.2.1.symm
theorem IsFiles.apart {B : Nat} {w : World} {g gs : Nat} {fl : List FileD} (h : IsFiles B w g gs fl) : gs ≠ g := by
  have := h.2.1.apartF h.1 (by decide)
  intro e
  exact this (by rw [e]; rfl)
theorem IsFiles.below {B : Nat} {w w' : World} {g gs : Nat} {fl : List FileD} (h : IsFiles B w g gs fl) (b : Below w.heap.size w w') : IsFiles B w' g gs fl :=
  ⟨(b.block g (Array.getElem?_eq_some_iff.1 h.1).1).trans h.1, h.2.1.below b, h.2.2⟩
theorem IsFiles.less {B B' : Nat} {w : World} {g gs : Nat} {fl : List FileD} (h : IsFiles B w g gs fl) (hB : B' ≤ B) : IsFiles B' w g gs fl := ⟨h.1, h.2.1.less hB, Nat.le_trans hB h.2.2.1, h.2.2.2⟩
theorem files_facts {B : Nat} {w : World} {g gs : Nat} {fl : List FileD} (h : IsFiles B w g gs fl) : w.cell? ⟨g, 0, none⟩ = some (.slice (some ⟨gs, 0, none⟩) fl.length fl.length) := by
  unfold World.cell?; rw [h.1]; rfl
theorem files_lt {B : Nat} {w : World} {g gs : Nat} {fl : List FileD} (h : IsFiles B w g gs fl) : g < w.heap.size ∧ gs < w.heap.size ∧ B ≤ gs := ⟨(Array.getElem?_eq_some_iff.1 h.1).1, (h.2.1.lt gs rfl).2, (h.2.1.lt gs rfl).1⟩
theorem files_row {B : Nat} {w : World} {g gs : Nat} {fl : List FileD} (h : IsFiles B w g gs fl) {i : Nat} {s : FileD} (hu : fl[i]? = some s) :
    w.cell? ⟨gs, i * 5, none⟩ = some (.int .i64 s.kind) ∧ w.cell? ⟨gs, i * 5 + 1, none⟩ = some (.int .i64 s.num) ∧ w.cell? ⟨gs, i * 5 + 2, none⟩ = some (.int .i64 s.at_) ∧ w.cell? ⟨gs, i * 5 + 3, none⟩ = some (.int .i64 s.flags) ∧ w.cell? ⟨gs, i * 5 + 4, none⟩ = some (.int .i64 s.refs) := by
  have hh := h.2.1.head.2.2 i _ (filesV_get hu)
  exact ⟨hh 0 _ rfl, hh 1 _ rfl, hh 2 _ rfl, hh 3 _ rfl, hh 4 _ rfl⟩
theorem files_free {B : Nat} {w : World} {g gs : Nat} {fl : List FileD} (h : IsFiles B w g gs fl) (j : Nat) : w.frozen? ⟨gs, j, none⟩ = false := h.2.1.frozen (filesV_length fl) j
theorem files_store {B : Nat} {w : World} {g gs : Nat} {fl : List FileD} (h : IsFiles B w g gs fl) {i j : Nat} {s s' : FileD} (hu : fl[i]? = some s) (hj : j < 5) (x : Value) (hx : (fileV s).set j x = fileV s') :
    IsFiles B (w.setCell ⟨gs, i * 5 + j, none⟩ x) g gs (fl.set i s') ∧ w.grownBy (w.setCell ⟨gs, i * 5 + j, none⟩ x) (some gs) := by
  have hs := h.2.1.stored (filesV_length fl) (filesV_get hu) hj x
  have e : (filesV fl).set i ((fileV s).set j x) = filesV (fl.set i s') := by rw [hx]; unfold filesV; rw [List.map_set]
  rw [e] at hs
  refine ⟨⟨?_, ?_, h.2.2.1, ?_⟩, hs.2⟩
  · rw [List.length_set, ← h.1]
    exact hs.2.block g (files_lt h).1 (by rw [Ne, Option.some.injEq]; exact fun e => h.apart e.symm)
  · rw [List.length_set]
    exact hs.1
  · rw [List.length_set]; exact h.2.2.2
def put5 (w : World) (gs i : Nat) (s : FileD) : World := ((((w.setCell ⟨gs, i * 5, none⟩ (.int .i64 s.kind)).setCell ⟨gs, i * 5 + 1, none⟩ (.int .i64 s.num)).setCell ⟨gs, i * 5 + 2, none⟩ (.int .i64 s.at_)).setCell ⟨gs, i * 5 + 3, none⟩ (.int .i64 s.flags)).setCell ⟨gs, i * 5 + 4, none⟩ (.int .i64 s.refs)
theorem grown_transF {w w' w'' : World} {row : Option Nat} (h : w.grownBy w' row) (k : w'.grownBy w'' row) : w.grownBy w'' row :=
  ⟨k.os.trans h.os, k.tape.trans h.tape, k.output.trans h.output, Nat.le_trans h.size k.size, fun j hj hne => (k.block j (Nat.lt_of_lt_of_le hj h.size) hne).trans (h.block j hj hne)⟩
theorem files_put {B : Nat} {w : World} {g gs : Nat} {fl : List FileD} (h : IsFiles B w g gs fl) {i : Nat} {s : FileD} (hu : fl[i]? = some s) (s' : FileD) :
    IsFiles B (put5 w gs i s') g gs (fl.set i s') ∧ w.grownBy (put5 w gs i s') (some gs) := by
  have hi := (List.getElem?_eq_some_iff.1 hu).1
  have s1 := files_store (j := 0) h hu (by decide) (.int .i64 s'.kind) (s' := ⟨s'.kind, s.num, s.at_, s.flags, s.refs⟩) rfl
  have s2 := files_store (j := 1) s1.1 (s := ⟨s'.kind, s.num, s.at_, s.flags, s.refs⟩) (i := i) (by rw [List.getElem?_set_self hi]) (by decide) (.int .i64 s'.num) (s' := ⟨s'.kind, s'.num, s.at_, s.flags, s.refs⟩) rfl
  have s3 := files_store (j := 2) s2.1 (s := ⟨s'.kind, s'.num, s.at_, s.flags, s.refs⟩) (i := i) (by rw [List.getElem?_set_self (by rw [List.length_set]; exact hi)]) (by decide) (.int .i64 s'.at_) (s' := ⟨s'.kind, s'.num, s'.at_, s.flags, s.refs⟩) rfl
  have s4 := files_store (j := 3) s3.1 (s := ⟨s'.kind, s'.num, s'.at_, s.flags, s.refs⟩) (i := i) (by rw [List.getElem?_set_self (by rw [List.length_set, List.length_set]; exact hi)]) (by decide) (.int .i64 s'.flags) (s' := ⟨s'.kind, s'.num, s'.at_, s'.flags, s.refs⟩) rfl
  have s5 := files_store (j := 4) s4.1 (s := ⟨s'.kind, s'.num, s'.at_, s'.flags, s.refs⟩) (i := i) (by rw [List.getElem?_set_self (by rw [List.length_set, List.length_set, List.length_set]; exact hi)]) (by decide) (.int .i64 s'.refs) (s' := s') rfl
  rw [List.set_set, List.set_set, List.set_set, List.set_set] at s5
  exact ⟨s5.1, grown_transF (grown_transF (grown_transF (grown_transF s1.2 s2.2) s3.2) s4.2) s5.2⟩
theorem files_rows (fl : List FileD) : ∀ p ∈ filesV fl, p.length = 5 := by
  intro p hp
  unfold filesV at hp
  rw [List.mem_map] at hp
  obtain ⟨u, _, rfl⟩ := hp
  rfl
theorem made_files (n : Nat) : (madeCells #[.int .i64 0, .int .i64 0, .int .i64 0, .int .i64 0, .int .i64 0] (n * 5)).toList = flatR (filesV (List.replicate n zeroF)) := by
  have hall := files_rows (List.replicate n zeroF)
  apply List.ext_getElem?
  intro k
  rw [Array.getElem?_toList]
  by_cases hk : k < n * 5
  · have hd : k = (k / 5) * 5 + k % 5 := by omega
    have hq : k / 5 < n := by omega
    have hm : k % 5 < 5 := Nat.mod_lt _ (by decide)
    have h1 : (filesV (List.replicate n zeroF))[k / 5]? = some (fileV zeroF) := filesV_get (by rw [List.getElem?_replicate, if_pos hq])
    have h2 := flatR_get hall h1 hm
    rw [← hd] at h2
    rw [h2]
    unfold madeCells
    rw [Array.getElem?_map, Array.getElem?_range, if_pos hk]
    simp only [Option.map_some]
    show some ((#[Value.int .i64 0, Value.int .i64 0, Value.int .i64 0, Value.int .i64 0, Value.int .i64 0] : Array Value)[k % 5]!) = _
    obtain h | h | h | h | h : k % 5 = 0 ∨ k % 5 = 1 ∨ k % 5 = 2 ∨ k % 5 = 3 ∨ k % 5 = 4 := by omega
    all_goals rw [h]; rfl
  · rw [Array.getElem?_eq_none (by rw [size_madeCells]; omega), List.getElem?_eq_none (by rw [flatR_length hall, filesV_length, List.length_replicate]; omega)]
theorem info_file : (Try.prog.info? 58).map (fun i => (i.zero, i.size, i.bytes)) = some (some (.agg #[.int .i64 0, .int .i64 0, .int .i64 0, .int .i64 0, .int .i64 0]), 5, 40) := by kernel_rfl
theorem run_make_rowF (n : Nat) (hn : n ≤ 200) (w : World) :
    (Instr.makeSlice 96 (.int .i64 (n : Int)) (.int .i64 (n : Int))).run Try.prog w = .ok (.slice (some ⟨w.heap.size, 0, none⟩) n n) (w.alloc (.cells (madeCells #[.int .i64 0, .int .i64 0, .int .i64 0, .int .i64 0, .int .i64 0] (n * 5)) 58)) := by
  obtain ⟨i0, hi, hz0, hz1, hz2⟩ := info_parts info_file
  have hr := run_make (P := Try.prog) w 96 58 i0 (.agg #[.int .i64 0, .int .i64 0, .int .i64 0, .int .i64 0, .int .i64 0]) Try.underlying96 hi hz0 .i64 .i64 n n (by omega) (by omega) (by rw [hz2]; omega) (by omega)
  simp only [Int.toNat_natCast, hz1, Value.cells] at hr
  exact hr
def clampF (most n : Int) : Int := min (max n 1) most
theorem fupTo_is (most n : Int) (w : World) : Calls Try.prog 53 #[.int .i64 most, .int .i64 n] w fun e w' => e = .returned (.int .i64 (clampF most n)) ∧ w = w' := by
  go_enter Try.func53, Try.ntmps53
  go_wp2
  go_ret
  exact ⟨rfl, rfl⟩
def FNewPost (w : World) (fl : List FileD) (e : Ending) (w' : World) : Prop := ∃ g gs, e = .returned (.pointer (some ⟨g, 0, none⟩)) ∧ IsFiles w.heap.size w' g gs fl ∧ Below w.heap.size w w'
theorem fnew_is (n : Int) (w : World) (m : Nat) (hm : clampF 64 n = m) : Calls Try.prog 15 #[.int .i64 n] w (FNewPost w (List.replicate m zeroF)) := by
  have hm2 : m ≤ 64 := by unfold clampF at hm; omega
  have hm1 : 1 ≤ m := by unfold clampF at hm; omega
  have hmk := fun W => run_make_rowF m (by omega) W
  have HM := Lib.hid hm
  clear hm
  go_enter Try.func15, Try.ntmps15
  go_wp2_with fail
  refine (fupTo_is 64 n w).mono ?_
  rintro e w' ⟨rfl, rfl⟩
  rw [HM.out]
  go_wp2
  go_ret
  refine ⟨w.heap.size + 1, w.heap.size, rfl, ⟨?_, ?_, Nat.le_succ _, by rw [List.length_replicate]; exact ⟨hm1, hm2⟩⟩, ((Below.refl _ _).alloc (Nat.le_refl _) _).alloc (by simp) _⟩
  · rw [heap_alloc2_new, List.length_replicate]
  · have hl : (filesV (List.replicate m zeroF)).length = m := by rw [filesV_length, List.length_replicate]
    have hnew := OwnsR'.new (B := w.heap.size) (w := w) (e := 58) (k := 5) (l := filesV (List.replicate m zeroF)) (files_rows _) (Nat.le_refl _) (by rw [hl]; unfold maxLen; omega) (made_files m)
    rw [hl] at hnew
    rw [List.length_replicate]
    exact hnew.alloc _
theorem known_is (s : FileD) (w : World) : Calls Try.prog 59 #[.agg #[.int .i64 s.kind, .int .i64 s.num, .int .i64 s.at_, .int .i64 s.flags, .int .i64 s.refs]] w fun e w' => e = .returned (.bool (knownB s)) ∧ Below w.heap.size w w' := by
  go_enter Try.func59, Try.ntmps59
  go_wp2
  go_ret
  exact ⟨rfl, below_box _ _⟩
theorem enters_known (args : Array Value) (w : World) : (callFunc 59 args).run Try.prog w = .ok (.enter 59 args) w := enters_of Try.func59 (by kernel_rfl) rfl args w
theorem enters_unknown (args : Array Value) (w : World) : (callFunc 58 args).run Try.prog w = .ok (.enter 58 args) w := enters_of Try.func58 (by kernel_rfl) rfl args w
theorem known_pred (w : World) : PredV 59 #[] (fun s => .agg (fileV s).toArray) (fun _ => True) knownB w := fun W s _ _ => known_is s W
theorem unknown_pred (w : World) : PredV 58 #[] (fun s => .agg (fileV s).toArray) (fun _ => True) (fun s => !knownB s) w := by
  intro W s _ hB
  clear hB
  show Calls Try.prog 58 #[.agg #[.int .i64 s.kind, .int .i64 s.num, .int .i64 s.at_, .int .i64 s.flags, .int .i64 s.refs]] W _
  go_enter Try.func58, Try.ntmps58
  go_wp2_with fail
  refine (known_is s _).mono ?_
  rintro e w1 ⟨rfl, b1⟩
  go_wp2
  go_ret
  exact ⟨rfl, below_next (below_box _ _) b1⟩
theorem files_reads {B : Nat} {w : World} {g gs : Nat} {fl : List FileD} (h : IsFiles B w g gs fl) : ReadsR w (some ⟨gs, 0, none⟩) 5 (filesV fl) := by
  obtain ⟨a, c, hv, hr, _, _⟩ := h.2.1.reads
  obtain ⟨rfl, _, _⟩ := Value.slice.inj hv
  exact hr
set_option maxHeartbeats 1600000 in
theorem places_file (l : List FileD) (a : Option Addr) (cap : Nat) (w : World) (hr : ReadsR w a 5 (filesV l)) (hn : l.length ≤ 100000) (S : FileD → Prop) (hS : ∀ r ∈ l, S r) (p : FileD → Bool)
    (g : Nat) (lb : Array Value) (eg : ∀ args w, (callFunc g args).run Try.prog w = .ok (.enter g args) w) (hp : PredV g lb (fun u => .agg (fileV u).toArray) S p w) :
    Calls Try.prog 72 #[.slice a l.length cap, .func (.func g) #[] lb] w (PlacesPost w p l) := by
  have HR := Lib.hid hr
  have HS := Lib.hid hS
  have HP := Lib.hid hp
  clear hr hS hp
  obtain ⟨n, hnn⟩ : ∃ n, l.length = n := ⟨_, rfl⟩
  have HE : Hid (PlacesPost w p l = fun e w' => ∃ v, e = .returned v ∧ OwnsV w.heap.size w' 3 v (natV (placesL p l n)) ∧ Below w.heap.size w w') := by show _ = _; rw [← hnn]; rfl
  rw [hnn] at hn ⊢
  have HN := Lib.hid hnn
  clear hnn
  go_enter Try.func72, Try.ntmps72
  go_wp2
  go_loopw [5, 10] (fun v i wr => ∃ k : Nat, k ≤ n ∧ i = .int .i64 k ∧ Hid (OwnsV w.heap.size wr 3 v (natV (placesL p l k))) ∧ Hid (Below w.heap.size w wr)) (fun _ i _ => n - (intOf i).toNat)
  case atStart => exact ⟨0, Nat.zero_le _, rfl, OwnsV.nil _ _ _, Below.refl _ _⟩
  case round =>
    obtain ⟨k, hk, rfl, HO, HB⟩ := hrel
    by_cases hlt : k < n
    · obtain ⟨u, hrow⟩ : ∃ r, l[k]? = some r := ⟨_, List.getElem?_eq_getElem (by rw [HN.out]; exact hlt)⟩
      have HRS := Lib.hid (HS.out u (List.mem_of_getElem? hrow))
      have HROW := Lib.hid hrow
      obtain ⟨b, off, rfl, hb, hc⟩ := (HR.out.below HB.out).row (filesV_get hrow)
      have c0 : wr.cell? ⟨b, off + k * 5, none⟩ = some (.int .i64 u.kind) := hc 0 _ rfl
      have c1 : wr.cell? ⟨b, off + k * 5 + 1, none⟩ = some (.int .i64 u.num) := by have := hc 1 _ rfl; rwa [← Nat.add_assoc] at this
      have c2 : wr.cell? ⟨b, off + k * 5 + 2, none⟩ = some (.int .i64 u.at_) := by have := hc 2 _ rfl; rwa [← Nat.add_assoc] at this
      have c3 : wr.cell? ⟨b, off + k * 5 + 3, none⟩ = some (.int .i64 u.flags) := by have := hc 3 _ rfl; rwa [← Nat.add_assoc] at this
      have c4 : wr.cell? ⟨b, off + k * 5 + 4, none⟩ = some (.int .i64 u.refs) := by have := hc 4 _ rfl; rwa [← Nat.add_assoc] at this
      clear hc hrow hb
      have hcall := fun W hW => HP.out W u HRS.out hW
      have hsz := HB.out.size
      obtain ⟨B, hB⟩ : ∃ B, w.heap.size = B := ⟨_, rfl⟩
      rw [hB] at hsz
      have hw1 : B ≤ wr.heap.size + 1 := by omega
      have hlen := placesL_length p l k
      have HLen : Hid ((natV (placesL p l k)).length ≤ 100000) := by show _ ≤ _; rw [natV_length]; omega
      clear hlen hB
      cases hpu : p u with
      | true =>
        simp only [hpu] at hcall
        have HNext : Hid (natV (placesL p l (k + 1)) = natV (placesL p l k) ++ [.int .i64 (k : Int)]) := by show _ = _; rw [placesL_yes HROW.out hpu, natV_append]; rfl
        clear hpu
        go_wp2_with (first | (go_at_fn g; refine (hcall _ (below_next HB.out (below_box _ _))).mono ?_; rintro e w1 ⟨rfl, b1⟩) | (at_builtin; refine wpList_append_vals rfl _ _ 37 rfl w.heap.size 3 (.int .i64 0) 8 Try.underlying37 info_int rfl _ _ rfl (((HO.out.alloc _).below b1).alloc _) _ _ _ rfl _ (ReadsV.lit w1 #[.int .i64 (k : Int)] 3) (by intro y hy; simp at hy; subst hy; rfl) (by have := HLen.out; simp; omega) (by have := HLen.out; unfold maxLen; simp; omega) (by have h1 := b1.size; have h2 := HB.out.size; simp at h1 ⊢; omega) ?_; intro v' w2 ho hg))
        go_roundw
        case rel =>
          refine ⟨k + 1, by omega, by go_num, ?_, ?_⟩
          · show OwnsV _ _ _ _ _
            rw [HNext.out]
            exact ho
          · refine (((HO.out.alloc _).below b1).alloc _).grown ?_ ?_ hg
            · exact (below_next (below_next HB.out (below_box _ _)) b1).alloc (by have h1 := b1.size; have h2 := HB.out.size; simp at h1; omega) _
            · have h1 := b1.size; have h2 := HB.out.size; simp at h1 ⊢; omega
        case measure => simp [intOf]; omega
      | false =>
        simp only [hpu] at hcall
        have HNext : Hid (placesL p l (k + 1) = placesL p l k) := placesL_no HROW.out hpu
        clear hpu
        go_wp2_with (go_at_fn g; refine (hcall _ (below_next HB.out (below_box _ _))).mono ?_; rintro e w1 ⟨rfl, b1⟩)
        go_roundw
        case rel =>
          refine ⟨k + 1, by omega, by go_num, ?_, ?_⟩
          · show OwnsV _ _ _ _ _
            rw [HNext.out]
            exact (HO.out.alloc _).below b1
          · exact below_next (below_next HB.out (below_box _ _)) b1
        case measure => simp [intOf]; omega
    · have hkn : k = n := by omega
      subst hkn
      go_wp2
      go_ret
      rw [HE.out]
      exact ⟨_, rfl, HO.out, HB.out⟩
set_option maxHeartbeats 1600000 in
theorem index_file (l : List FileD) (a : Option Addr) (cap : Nat) (w : World) (hr : ReadsR w a 5 (filesV l)) (hn : l.length ≤ 100000) (S : FileD → Prop) (hS : ∀ r ∈ l, S r) (p : FileD → Bool)
    (g : Nat) (lb : Array Value) (eg : ∀ args w, (callFunc g args).run Try.prog w = .ok (.enter g args) w) (hp : PredV g lb (fun u => .agg (fileV u).toArray) S p w) :
    Calls Try.prog 57 #[.slice a l.length cap, .func (.func g) #[] lb] w fun e w' => e = .returned (.int .i64 (firstI p l)) ∧ Below w.heap.size w w' := by
  have HR := Lib.hid hr
  have HS := Lib.hid hS
  have HP := Lib.hid hp
  clear hr hS hp
  obtain ⟨n, hnn⟩ : ∃ n, l.length = n := ⟨_, rfl⟩
  obtain ⟨z, hz⟩ : ∃ z, firstI p l = z := ⟨_, rfl⟩
  rw [hnn] at hn ⊢
  rw [hz]
  have HZ := Lib.hid hz
  have HN := Lib.hid hnn
  clear hnn hz
  go_enter Try.func57, Try.ntmps57
  go_wp2
  go_loopw [8] (fun i wr => ∃ k : Nat, k ≤ n ∧ i = .int .i64 k ∧ Hid (placesL p l k = []) ∧ Hid (Below w.heap.size w wr)) (fun i _ => n - (intOf i).toNat)
  case atStart => exact ⟨0, Nat.zero_le _, rfl, rfl, Below.refl _ _⟩
  case round =>
    obtain ⟨k, hk, rfl, HO, HB⟩ := hrel
    by_cases hlt : k < n
    · obtain ⟨u, hrow⟩ : ∃ r, l[k]? = some r := ⟨_, List.getElem?_eq_getElem (by rw [HN.out]; exact hlt)⟩
      have HRS := Lib.hid (HS.out u (List.mem_of_getElem? hrow))
      have HROW := Lib.hid hrow
      obtain ⟨b, off, rfl, hb, hc⟩ := (HR.out.below HB.out).row (filesV_get hrow)
      have c0 : wr.cell? ⟨b, off + k * 5, none⟩ = some (.int .i64 u.kind) := hc 0 _ rfl
      have c1 : wr.cell? ⟨b, off + k * 5 + 1, none⟩ = some (.int .i64 u.num) := by have := hc 1 _ rfl; rwa [← Nat.add_assoc] at this
      have c2 : wr.cell? ⟨b, off + k * 5 + 2, none⟩ = some (.int .i64 u.at_) := by have := hc 2 _ rfl; rwa [← Nat.add_assoc] at this
      have c3 : wr.cell? ⟨b, off + k * 5 + 3, none⟩ = some (.int .i64 u.flags) := by have := hc 3 _ rfl; rwa [← Nat.add_assoc] at this
      have c4 : wr.cell? ⟨b, off + k * 5 + 4, none⟩ = some (.int .i64 u.refs) := by have := hc 4 _ rfl; rwa [← Nat.add_assoc] at this
      clear hc hrow hb
      have hcall := fun W hW => HP.out W u HRS.out hW
      have hx1 : (0 : Int) ≤ (k : Int) := by omega
      have hx2 : (k : Int) < (n : Int) := by omega
      cases hpu : p u with
      | true =>
        simp only [hpu] at hcall
        have HZ2 : Hid (z = k) := by show _ = _; rw [← HZ.out]; exact firstI_hit HO.out HROW.out hpu
        clear hpu
        go_wp2_with (go_at_fn g; refine (hcall _ HB.out).mono ?_; rintro e w1 ⟨rfl, b1⟩)
        go_ret
        exact ⟨ret_int HZ2.out.symm, below_next HB.out b1⟩
      | false =>
        simp only [hpu] at hcall
        have HNext : Hid (placesL p l (k + 1) = []) := (placesL_no HROW.out hpu).trans HO.out
        clear hpu
        go_wp2_with (go_at_fn g; refine (hcall _ HB.out).mono ?_; rintro e w1 ⟨rfl, b1⟩)
        go_roundw
        case rel => exact ⟨k + 1, by omega, by go_num, HNext, below_next HB.out b1⟩
        case measure => simp [intOf]; omega
    · have hkn : k = n := by omega
      subst hkn
      go_wp2
      go_ret
      refine ⟨ret_int ?_, HB.out⟩
      rw [← HZ.out]
      unfold firstI
      rw [HN.out, HO.out]
end Go.Proofs.Ytebkkbmplndcpaa

namespace Go.Proofs.Ytebkkbmplndcpaa
open Go.RowKit Go.Sort
set_option linter.unusedVariables false
set_option linter.unusedSimpArgs false
set_option maxRecDepth 100000

/-- The open file of a number. -/
def openAt (fl : List FileD) (n : Int) : Option FileD := if 0 ≤ n then (match fl[n.toNat]? with | some o => if knownB o then some o else none | none => none) else none
theorem openAt_yes {fl : List FileD} {i : Nat} {o : FileD} (h : fl[i]? = some o) (hk : knownB o = true) : openAt fl (i : Int) = some o := by
  unfold openAt
  rw [if_pos (by omega), Int.toNat_natCast, h]
  simp [hk]
theorem openAt_some {fl : List FileD} {n : Int} {o : FileD} (h : openAt fl n = some o) : ∃ i : Nat, n = (i : Int) ∧ fl[i]? = some o ∧ knownB o = true := by
  unfold openAt at h
  split at h
  · rename_i h0
    split at h
    · rename_i x hx
      split at h
      · rename_i hk
        obtain rfl := Option.some.inj h
        exact ⟨n.toNat, by omega, hx, hk⟩
      · cases h
    · cases h
  · cases h
theorem openAt_none {fl : List FileD} {n : Int} (h : openAt fl n = none) : n < 0 ∨ (fl.length : Int) ≤ n ∨ ∃ (i : Nat) (o : FileD), n = (i : Int) ∧ fl[i]? = some o ∧ knownB o = false := by
  unfold openAt at h
  split at h
  · rename_i h0
    split at h
    · rename_i x hx
      split at h
      · cases h
      · rename_i hk
        exact .inr (.inr ⟨n.toNat, x, by omega, hx, by simpa using hk⟩)
    · rename_i hx
      rw [List.getElem?_eq_none_iff] at hx
      exact .inr (.inl (by omega))
  · exact .inl (by omega)
set_option maxHeartbeats 1000000 in
theorem ffind_yes {B : Nat} {w : World} {g gs : Nat} {fl : List FileD} (h : IsFiles B w g gs fl) (i : Nat) (s : FileD) (hu : fl[i]? = some s) (hk : knownB s = true) :
    Calls Try.prog 62 #[.pointer (some ⟨g, 0, none⟩), .int .i64 (i : Int)] w fun e w' => e = .returned (.tuple #[.pointer (some ⟨gs, i * 5, none⟩), .int .i64 0]) ∧ Below w.heap.size w w' := by
  have c0 := files_facts h
  obtain ⟨r0, r1, r2, r3, r4⟩ := files_row h hu
  have hi := (List.getElem?_eq_some_iff.1 hu).1
  have hlen := h.2.2.2.2
  have hi2 : (i : Int) < (fl.length : Int) := by omega
  have hi3 : ¬ (fl.length : Int) ≤ (i : Int) := by omega
  have hi0 : (0 : Int) ≤ (i : Int) := by omega
  have hi4 : ¬ (i : Int) < 0 := by omega
  have hI : (i : Int) ≤ 64 := by omega
  have H := Lib.hid h
  have HK := Lib.hid hk
  clear h hu hi hk
  go_enter Try.func62, Try.ntmps62
  go_wp2_with fail
  refine (known_is s w).mono ?_
  rintro e w' ⟨rfl, b1⟩
  rw [HK.out]
  have h1 := H.out.below b1
  have c1 := files_facts h1
  have HB := Lib.hid b1
  clear b1 h1
  go_wp2
  go_ret2
  exact ⟨rfl, HB.out⟩
set_option maxHeartbeats 1000000 in
theorem ffind_no {B : Nat} {w : World} {g gs : Nat} {fl : List FileD} (h : IsFiles B w g gs fl) (n : Int) (hn : openAt fl n = none) :
    Calls Try.prog 62 #[.pointer (some ⟨g, 0, none⟩), .int .i64 n] w fun e w' => e = .returned (.tuple #[.pointer none, .int .i64 2]) ∧ Below w.heap.size w w' := by
  have c0 := files_facts h
  have hlen := h.2.2.2.2
  rcases openAt_none hn with h0 | h0 | ⟨i, s, rfl, hu, hk⟩
  · clear h hn
    go_enter Try.func62, Try.ntmps62
    go_wp2
    go_ret2
    exact ⟨rfl, Below.refl _ _⟩
  · clear h hn
    have h1 : ¬ n < 0 := by omega
    go_enter Try.func62, Try.ntmps62
    go_wp2
    go_ret2
    exact ⟨rfl, Below.refl _ _⟩
  · obtain ⟨r0, r1, r2, r3, r4⟩ := files_row h hu
    have hi := (List.getElem?_eq_some_iff.1 hu).1
    have hi2 : (i : Int) < (fl.length : Int) := by omega
    have hi3 : ¬ (fl.length : Int) ≤ (i : Int) := by omega
    have hi0 : (0 : Int) ≤ (i : Int) := by omega
    have hi4 : ¬ (i : Int) < 0 := by omega
    have hI : (i : Int) ≤ 64 := by omega
    have HK := Lib.hid hk
    clear h hu hi hk hn
    go_enter Try.func62, Try.ntmps62
    go_wp2_with fail
    refine (known_is s w).mono ?_
    rintro e w' ⟨rfl, b1⟩
    rw [HK.out]
    have HB := Lib.hid b1
    clear b1
    go_wp2
    go_ret2
    exact ⟨rfl, HB.out⟩
theorem size_file : (Try.prog.info? 58).map (·.size) = some 5 := by kernel_rfl
theorem row_file : ∃ d, Try.prog.underlying 58 = some d ∧ d.isRow = true := by
  cases h : Try.prog.underlying 58 with
  | none => exact absurd h (by decide)
  | some d =>
    refine ⟨d, rfl, ?_⟩
    have : (Try.prog.underlying 58).map (·.isRow) = some true := by kernel_rfl
    rw [h] at this
    simpa using this
theorem load_file {w : World} {g : Nat} {a b c d e : Value} (h : Five w g a b c d e) : (loadVar 58 ⟨g, 0, none⟩).run Try.prog w = .ok (.agg #[a, b, c, d, e]) w := by
  obtain ⟨t, ht, hr⟩ := row_file
  obtain ⟨h0, h1, h2, h3, h4⟩ := h
  refine run_loadVar_mid w g 0 58 [a, b, c, d, e] t (fun j v hv => ?_) ht hr size_file
  rw [Nat.zero_add]
  match j, hv with
  | 0, hv => cases hv; exact h0
  | 1, hv => cases hv; exact h1
  | 2, hv => cases hv; exact h2
  | 3, hv => cases hv; exact h3
  | 4, hv => cases hv; exact h4
theorem results_file_tmp {fn : Func} {p u : Tmp} (h : fn.results = #[.cell p 58, .tmp u]) (tmps : Array Value) (w : World) (g : Nat) {a b c d e : Value} (hp : tmps.getD p undef = .pointer (some ⟨g, 0, none⟩)) (hf : Five w g a b c d e) :
    (results fn tmps).run Try.prog w = .ok (.tuple #[.agg #[a, b, c, d, e], tmps.getD u undef]) w := by
  rw [results_cell_tmp h, hp]
  simp only [asAddr, Sem.run_pure, Result.andThen_ok, load_file hf]
theorem results_file_two {fn : Func} {p u x : Tmp} (h : fn.results = #[.cell p 58, .tmp u, .tmp x]) (tmps : Array Value) (w : World) (g : Nat) {a b c d e : Value} (hp : tmps.getD p undef = .pointer (some ⟨g, 0, none⟩)) (hf : Five w g a b c d e) :
    (results fn tmps).run Try.prog w = .ok (.tuple #[.agg #[a, b, c, d, e], tmps.getD u undef, tmps.getD x undef]) w := by
  have e1 : (results fn tmps).run Try.prog w = ((asAddr (tmps.getD p undef)).run Try.prog w).andThen fun a w₁ => ((loadVar 58 a).run Try.prog w₁).andThen fun v w₂ => .ok (.tuple #[v, tmps.getD u undef, tmps.getD x undef]) w₂ := by
    simp only [results, h]
    simp [Sem.run_bind, Result.andThen]
  rw [e1, hp]
  simp only [asAddr, Sem.run_pure, Result.andThen_ok, load_file hf]
/-- What a file is told as. -/
def fileA (s : FileD) : Value := .agg #[.int .i64 s.kind, .int .i64 s.num, .int .i64 s.at_, .int .i64 s.flags, .int .i64 s.refs]
def getF (fl : List FileD) (n : Int) : FileD × Int := match openAt fl n with | some o => (o, 0) | none => (zeroF, 2)
theorem getF_yes {fl : List FileD} {n : Int} {o : FileD} (h : openAt fl n = some o) : getF fl n = (o, 0) := by unfold getF; rw [h]
theorem getF_no {fl : List FileD} {n : Int} (h : openAt fl n = none) : getF fl n = (zeroF, 2) := by unfold getF; rw [h]
end Go.Proofs.Ytebkkbmplndcpaa

namespace Go.Proofs.Ytebkkbmplndcpaa
open Go.RowKit Go.Sort
set_option linter.unusedVariables false
set_option linter.unusedSimpArgs false
set_option maxRecDepth 100000

def FilesPost (B : Nat) (w : World) (g gs : Nat) (fl : List FileD) (v : Value) (e : Ending) (w' : World) : Prop :=
  e = .returned v ∧ IsFiles B w' g gs fl ∧ w.grownBy w' (some gs)
theorem grown_belowF {w w1 w' : World} {row : Option Nat} (b : Below w.heap.size w w1) (h : w1.grownBy w' row) : w.grownBy w' row :=
  ⟨h.os.trans b.os, h.tape.trans b.tape, h.output.trans b.output, Nat.le_trans b.size h.size, fun k hk hne => (h.block k (Nat.lt_of_lt_of_le hk b.size) hne).trans (b.block k hk)⟩
theorem FilesPost.same {B : Nat} {w w' : World} {g gs : Nat} {fl : List FileD} (h : IsFiles B w g gs fl) (b : Below w.heap.size w w') (v : Value) : FilesPost B w g gs fl v (.returned v) w' := ⟨rfl, h.below b, grown_belowF b (grown_same _ _)⟩
/-- How often each is known: no more than so. -/
def FewRefs (k : Nat) (fl : List FileD) : Prop := ∀ o ∈ fl, 0 ≤ o.refs ∧ o.refs ≤ (k : Int)
def refF (fl : List FileD) (n : Int) : List FileD × Int := match openAt fl n with | some o => (fl.set n.toNat { o with refs := o.refs + 1 }, 0) | none => (fl, 2)
def moveF (fl : List FileD) (n at_ : Int) : List FileD × Int := match openAt fl n with | some o => if at_ < 0 then (fl, 1) else (fl.set n.toNat { o with at_ := at_ }, 0) | none => (fl, 2)
def closeF (fl : List FileD) (n : Int) : List FileD × FileD × Bool × Int := match openAt fl n with | some o => if o.refs = 1 then (fl.set n.toNat zeroF, o, true, 0) else (fl.set n.toNat { o with refs := o.refs - 1 }, o, false, 0) | none => (fl, zeroF, false, 2)
def badO (k n f : Int) : Prop := k < 1 ∨ 3 < k ∨ n < 1 ∨ f < 1 ∨ 7 < f
instance decBadO (k n f : Int) : Decidable (badO k n f) := by unfold badO; exact inferInstance
def openF (fl : List FileD) (k n f : Int) : List FileD × Int × Int := if badO k n f then (fl, 0, 1) else if firstI (fun o => !knownB o) fl < 0 then (fl, 0, 14) else (fl.set (firstI (fun o => !knownB o) fl).toNat ⟨k, n, 0, f, 1⟩, firstI (fun o => !knownB o) fl, 0)
def countF (fl : List FileD) : Nat := (placesL knownB fl fl.length).length
set_option maxHeartbeats 1000000 in
theorem fref_is {B : Nat} {w : World} {g gs : Nat} {fl : List FileD} (h : IsFiles B w g gs fl) (hf : FewRefs 1000 fl) (n : Int) :
    Calls Try.prog 26 #[.pointer (some ⟨g, 0, none⟩), .int .i64 n] w (FilesPost B w g gs (refF fl n).1 (.int .i64 (refF fl n).2)) := by
  have H := Lib.hid h
  clear h
  unfold refF
  cases ho : openAt fl n with
  | none =>
    have HO := Lib.hid ho
    clear ho
    go_enter Try.func26, Try.ntmps26
    go_wp2_with fail
    refine (ffind_no H.out n HO.out).mono ?_
    rintro e w' ⟨rfl, b1⟩
    have HB := Lib.hid b1
    clear b1
    go_wp2
    go_ret
    exact FilesPost.same H.out HB.out _
  | some o =>
    obtain ⟨i, rfl, hu, hk⟩ := openAt_some ho
    have hb := hf o (List.mem_of_getElem? hu)
    have HU := Lib.hid hu
    have HK := Lib.hid hk
    have HST := Lib.hid (fun (W : World) (hW : IsFiles B W g gs fl) => files_store (j := 4) hW hu (by decide) (.int .i64 (o.refs + 1)) (s' := { o with refs := o.refs + 1 }) rfl)
    have hw1 : IntKind.i64.wrap (o.refs + 1) = o.refs + 1 := IntWalk.i64_in _ (by omega)
    clear ho hu hk hf hb
    simp only [Int.toNat_natCast]
    go_enter Try.func26, Try.ntmps26
    go_wp2_with fail
    refine (ffind_yes H.out i o HU.out HK.out).mono ?_
    rintro e w' ⟨rfl, b1⟩
    have h1 := H.out.below b1
    obtain ⟨r0, r1, r2, r3, r4⟩ := files_row h1 HU.out
    have f4 := files_free h1 (i * 5 + 4)
    have hst := Lib.hid (HST.out w' h1)
    have HB := Lib.hid b1
    clear b1 h1
    go_wp2
    go_ret
    exact ⟨rfl, hst.out.1, grown_belowF HB.out hst.out.2⟩
theorem fcount_is {B : Nat} {w : World} {g gs : Nat} {fl : List FileD} (h : IsFiles B w g gs fl) :
    Calls Try.prog 33 #[.pointer (some ⟨g, 0, none⟩)] w fun e w' => e = .returned (.int .i64 (countF fl)) ∧ Below w.heap.size w w' := by
  have c0 := files_facts h
  have hlen := h.2.2.2.2
  have HPL := Lib.hid (places_file fl (some ⟨gs, 0, none⟩) fl.length w (files_reads h) (by omega) (fun _ => True) (fun _ _ => trivial) knownB 59 #[] enters_known (known_pred w))
  clear h
  obtain ⟨n, hn⟩ : ∃ n, countF fl = n := ⟨_, rfl⟩
  have HN : Hid ((natV (placesL knownB fl fl.length)).length = n) := Lib.hid (by rw [natV_length]; exact hn)
  rw [hn]
  clear hn
  go_enter Try.func33, Try.ntmps33
  go_wp2_with fail
  refine HPL.out.mono ?_
  rintro e w1 ⟨v, rfl, ho, b1⟩
  obtain ⟨a, cap, rfl, _, _, _⟩ := ho.reads
  rw [HN.out]
  have HB := Lib.hid b1
  clear ho b1
  go_wp2
  go_ret
  exact ⟨rfl, HB.out⟩
end Go.Proofs.Ytebkkbmplndcpaa
