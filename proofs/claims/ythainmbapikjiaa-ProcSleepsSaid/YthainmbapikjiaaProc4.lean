/- Processes: New, Sleep, Kill, wake, by their walks. -/
import Derived.Test.YthainmbapikjiaaProc3
namespace Go.Proofs.Ythainmbapikjiaa
open Go.RowKit Go.Sort
set_option linter.unusedVariables false
set_option linter.unusedSimpArgs false
set_option maxRecDepth 100000

structure TKeeps (g gs : Nat) (w w' : World) : Prop where
  os : w'.os = w.os
  tape : w'.tape = w.tape
  output : w'.output = w.output
  size : w.heap.size ≤ w'.heap.size
  block : ∀ i, i < w.heap.size → i ≠ g → i ≠ gs → w'.heap[i]? = w.heap[i]?
theorem TKeeps.of_below {g gs : Nat} {w w' : World} (b : Below w.heap.size w w') : TKeeps g gs w w' := ⟨b.os, b.tape, b.output, b.size, fun i hi _ _ => b.block i hi⟩
theorem TKeeps.of_gs {g gs : Nat} {w w' : World} (k : w.grownBy w' (some gs)) : TKeeps g gs w w' := ⟨k.os, k.tape, k.output, k.size, fun i hi _ h => k.block i hi (fun e => h (Option.some.inj e))⟩
theorem TKeeps.of_g {g gs : Nat} {w w' : World} (k : w.grownBy w' (some g)) : TKeeps g gs w w' := ⟨k.os, k.tape, k.output, k.size, fun i hi h _ => k.block i hi (fun e => h (Option.some.inj e))⟩
theorem TKeeps.trans {g gs : Nat} {w w' w'' : World} (h : TKeeps g gs w w') (k : TKeeps g gs w' w'') : TKeeps g gs w w'' :=
  ⟨k.os.trans h.os, k.tape.trans h.tape, k.output.trans h.output, Nat.le_trans h.size k.size, fun i hi h1 h2 => (k.block i (Nat.lt_of_lt_of_le hi h.size) h1 h2).trans (h.block i hi h1 h2)⟩
theorem TKeeps.below {B g gs : Nat} {w0 w w' : World} (h : TKeeps g gs w w') (hb : Below B w0 w) (hB : B ≤ w.heap.size) (hg : B ≤ g) (hgs : B ≤ gs) : Below B w0 w' :=
  hb.trans ⟨h.os, h.tape, h.output, h.size, fun i hi => h.block i (by omega) (by omega) (by omega)⟩
/-- What a call on the table comes to. -/
def TPost (B : Nat) (w : World) (g gs : Nat) (T : TabD) (v : Value) (e : Ending) (w' : World) : Prop := ∃ gs' cap', e = .returned v ∧ IsTable B w' g gs' cap' T ∧ TKeeps g gs w w'
theorem TPost.same {B : Nat} {w w' : World} {g gs cap : Nat} {T : TabD} (h : IsTable B w g gs cap T) (b : Below w.heap.size w w') (v : Value) : TPost B w g gs T v (.returned v) w' := ⟨gs, cap, rfl, h.below b, .of_below b⟩
def firstProc : ProcD := ⟨1, 0, 1, 0, 0, false⟩
def newT (m : Int) : TabD := ⟨m, 1, 0, [firstProc]⟩
def TNewPost (w : World) (m : Int) (e : Ending) (w' : World) : Prop := ∃ g gs, e = .returned (.pointer (some ⟨g, 0, none⟩)) ∧ IsTable w.heap.size w' g gs 1 (newT m) ∧ Below w.heap.size w w'
set_option maxHeartbeats 1600000 in
theorem tnew_is (n m : Int) (hm : min (max n 1) 16 = m) (w : World) : Calls Try.prog 26 #[.int .i64 n] w (TNewPost w m) := by
  have hm1 : 1 ≤ m ∧ m ≤ 16 := by omega
  have HM := Lib.hid hm1
  go_enter Try.func26, Try.ntmps26
  go_wp2
  try rw [hm]
  go_ret
  refine ⟨w.heap.size + 1, w.heap.size, rfl, ⟨?_, ?_, Nat.le_succ _, HM.out.1, HM.out.2, Nat.le_refl _, show 1 ≤ 16 by decide, show (0 : Int) ≤ 0 by decide, show (0 : Int) ≤ 1099511627776 by decide, show (0 : Int) ≤ 1 by decide⟩, ((Below.refl _ _).alloc (Nat.le_refl _) _).alloc (by simp) _⟩
  · rw [heap_alloc2_new]
    rfl
  · have hnew := OwnsR'.new (B := w.heap.size) (w := w) (e := 75) (k := 6) (l := procsV [firstProc]) (procs_rows _) (Nat.le_refl _) (by unfold maxLen; decide) (cs := #[.int .i64 1, .int .i64 0, .int .i64 1, .int .i64 0, .int .i64 0, .bool false]) rfl
    exact hnew.alloc _
/-- A cell of a row stored. -/
theorem table_store {B : Nat} {w : World} {g gs cap : Nat} {T : TabD} (h : IsTable B w g gs cap T) {i j : Nat} {s s' : ProcD} (hu : T.list[i]? = some s) (hj : j < 6) (x : Value) (hx : (procV s).set j x = procV s') :
    IsTable B (w.setCell ⟨gs, i * 6 + j, none⟩ x) g gs cap { T with list := T.list.set i s' } ∧ w.grownBy (w.setCell ⟨gs, i * 6 + j, none⟩ x) (some gs) := by
  have hs := h.2.1.stored (procsV_length T.list) (procsV_get hu) hj x
  have e : (procsV T.list).set i ((procV s).set j x) = procsV (T.list.set i s') := by rw [hx]; unfold procsV; rw [List.map_set]
  rw [e] at hs
  refine ⟨⟨?_, ?_, h.2.2.1, ?_⟩, hs.2⟩
  · show _ = some (Obj.cells #[.int .i64 T.most, .int .i64 T.last, .int .i64 T.now, .slice (some ⟨gs, 0, none⟩) (T.list.set i s').length cap] 152 (0, 0))
    rw [List.length_set, ← h.1]
    exact hs.2.block g (table_lt h).1 (by rw [Ne, Option.some.injEq]; exact fun e => h.apart e.symm)
  · show OwnsR' B _ _ 6 (.slice (some ⟨gs, 0, none⟩) (T.list.set i s').length cap) (procsV (T.list.set i s'))
    rw [List.length_set]
    exact hs.1
  · obtain ⟨h1, h2, h3, h4, h5⟩ := h.2.2.2
    exact ⟨h1, h2, by rw [List.length_set]; exact h3, by rw [List.length_set]; exact h4, h5⟩
def sleepP (now ticks : Int) (s : ProcD) : ProcD := { s with state := 2, til := afterT now ticks }
def killP (s : ProcD) : ProcD := { s with killed := true, state := 1, til := 0 }
def wakeP (s : ProcD) : ProcD := { s with state := 1, til := 0 }
set_option maxHeartbeats 1600000 in
theorem wake_is {B : Nat} {w : World} {g gs cap : Nat} {T : TabD} (h : IsTable B w g gs cap T) {i : Nat} {s : ProcD} (hu : T.list[i]? = some s) :
    Calls Try.prog 96 #[.pointer (some ⟨gs, i * 6, none⟩)] w fun e w' => e = .returned (.tuple #[]) ∧ IsTable B w' g gs cap { T with list := T.list.set i (wakeP s) } ∧ w.grownBy w' (some gs) := by
  have hi := (List.getElem?_eq_some_iff.1 hu).1
  obtain ⟨r0, r1, r2, r3, r4, r5⟩ := table_row h hu
  have f2 := table_free h (i * 6 + 2)
  have f4 := table_free h (i * 6 + 4)
  have s1 := table_store (j := 2) h hu (by decide) (.int .i64 1) (s' := { s with state := 1 }) rfl
  have hu2 : (T.list.set i { s with state := 1 })[i]? = some { s with state := 1 } := List.getElem?_set_self hi
  have s2 := table_store (j := 4) s1.1 hu2 (by decide) (.int .i64 0) (s' := wakeP s) rfl
  have e : (T.list.set i { s with state := 1 }).set i (wakeP s) = T.list.set i (wakeP s) := by rw [List.set_set]
  have x4 := (table_row s1.1 hu2).2.2.2.2.1
  have y4 := table_free s1.1 (i * 6 + 4)
  obtain ⟨W, hW⟩ : ∃ x, (w.setCell ⟨gs, i * 6 + 2, none⟩ (.int .i64 1)).setCell ⟨gs, i * 6 + 4, none⟩ (.int .i64 0) = x := ⟨_, rfl⟩
  rw [hW] at s2
  have HS : Hid (IsTable B W g gs cap { T with list := T.list.set i (wakeP s) } ∧ w.grownBy W (some gs)) := Lib.hid ⟨by have := s2.1; dsimp only at this; rw [e] at this; exact this, grown_transT s1.2 s2.2⟩
  clear h hu s1 s2 hu2 e r0 r1 r3 r5
  go_enter Try.func96, Try.ntmps96
  go_wp2
  try rw [hW]
  clear hW
  go_end0
  exact ⟨rfl, HS.out.1, HS.out.2⟩
set_option maxHeartbeats 1600000 in
theorem tkill_yes {B : Nat} {w : World} {g gs cap : Nat} {T : TabD} (h : IsTable B w g gs cap T) {n : Int} {i : Nat} {s : ProcD} (hf : Found T n i s) (hs : s.state ≠ 3) (hn : n ≠ 1) :
    Calls Try.prog 85 #[.pointer (some ⟨g, 0, none⟩), .int .i64 n] w (TPost B w g gs { T with list := T.list.set i (killP s) } (.int .i64 0)) := by
  have HF := Lib.hid (tmortal_yes h hf hs hn)
  have HW := Lib.hid (fun (W : World) (hW : Below w.heap.size w W) => by
    have k0 := h.below hW
    have s1 := table_store (j := 5) k0 hf.2 (by decide) (.bool true) (s' := { s with killed := true }) rfl
    have hu2 : (T.list.set i { s with killed := true })[i]? = some { s with killed := true } := List.getElem?_set_self (List.getElem?_eq_some_iff.1 hf.2).1
    have hwk := wake_is s1.1 hu2
    dsimp only at hwk
    rw [List.set_set] at hwk
    exact And.intro (And.intro ((table_row k0 hf.2).2.2.2.2.2) (table_free k0 (i * 6 + 5))) (And.intro s1.2 hwk))
  have H := Lib.hid h
  clear h hf hs hn
  go_enter Try.func85, Try.ntmps85
  go_wp2_with fail
  refine HF.out.mono ?_
  rintro e w1 ⟨rfl, b1⟩
  obtain ⟨⟨x5, f5⟩, g5, hwk⟩ := HW.out w1 b1
  have HB := Lib.hid b1
  have HG := Lib.hid g5
  have HK := Lib.hid hwk
  clear b1 g5 hwk HW
  go_wp2_with fail
  refine HK.out.mono ?_
  rintro e w2 ⟨rfl, ht, hg⟩
  have HT := Lib.hid (And.intro ht (grown_transT HG.out hg))
  clear ht hg x5 f5
  go_wp2
  go_ret
  exact ⟨gs, _, rfl, HT.out.1, (TKeeps.of_below HB.out).trans (.of_gs HT.out.2)⟩
set_option maxHeartbeats 1600000 in
theorem tkill_one {B : Nat} {w : World} {g gs cap : Nat} {T : TabD} (h : IsTable B w g gs cap T) {i : Nat} {s : ProcD} (hf : Found T 1 i s) (hs : s.state ≠ 3) :
    Calls Try.prog 85 #[.pointer (some ⟨g, 0, none⟩), .int .i64 1] w (TPost B w g gs T (.int .i64 1)) := by
  have HF := Lib.hid (tmortal_one h hf hs)
  have H := Lib.hid h
  clear h hf hs
  go_enter Try.func85, Try.ntmps85
  go_wp2_with fail
  refine HF.out.mono ?_
  rintro e w1 ⟨rfl, b1⟩
  have HB := Lib.hid b1
  clear b1
  go_wp2
  go_ret
  exact TPost.same H.out HB.out _
set_option maxHeartbeats 1600000 in
theorem tkill_no {B : Nat} {w : World} {g gs cap : Nat} {T : TabD} (h : IsTable B w g gs cap T) {n : Int} (hg : Gone T n) :
    Calls Try.prog 85 #[.pointer (some ⟨g, 0, none⟩), .int .i64 n] w (TPost B w g gs T (.int .i64 18)) := by
  have HF := Lib.hid (tmortal_no h hg)
  have H := Lib.hid h
  clear h hg
  go_enter Try.func85, Try.ntmps85
  go_wp2_with fail
  refine HF.out.mono ?_
  rintro e w1 ⟨rfl, b1⟩
  have HB := Lib.hid b1
  clear b1
  go_wp2
  go_ret
  exact TPost.same H.out HB.out _
set_option maxHeartbeats 1600000 in
theorem tsleep_no {B : Nat} {w : World} {g gs cap : Nat} {T : TabD} (h : IsTable B w g gs cap T) {n : Int} (hg : Gone T n) (k : Int) :
    Calls Try.prog 32 #[.pointer (some ⟨g, 0, none⟩), .int .i64 n, .int .i64 k] w (TPost B w g gs T (.int .i64 18)) := by
  have HF := Lib.hid (tlive_no h hg)
  have H := Lib.hid h
  clear h hg
  go_enter Try.func32, Try.ntmps32
  go_wp2_with fail
  refine HF.out.mono ?_
  rintro e w1 ⟨rfl, b1⟩
  have HB := Lib.hid b1
  clear b1
  go_wp2
  go_ret
  exact TPost.same H.out HB.out _
set_option maxHeartbeats 1600000 in
theorem tsleep_busy {B : Nat} {w : World} {g gs cap : Nat} {T : TabD} (h : IsTable B w g gs cap T) {n : Int} {i : Nat} {s : ProcD} (hf : Found T n i s) (hs : s.state = 2) (k : Int) :
    Calls Try.prog 32 #[.pointer (some ⟨g, 0, none⟩), .int .i64 n, .int .i64 k] w (TPost B w g gs T (.int .i64 22)) := by
  have HF := Lib.hid (tlive_yes h hf (by omega))
  have HR := Lib.hid (fun (W : World) (hW : Below w.heap.size w W) => (table_row (h.below hW) hf.2).2.2.1)
  rw [hs] at HR
  have H := Lib.hid h
  clear h hf hs
  go_enter Try.func32, Try.ntmps32
  go_wp2_with fail
  refine HF.out.mono ?_
  rintro e w1 ⟨rfl, b1⟩
  have r2 := HR.out w1 b1
  have HB := Lib.hid b1
  clear b1
  go_wp2
  go_ret
  exact TPost.same H.out HB.out _
set_option maxHeartbeats 1600000 in
theorem tsleep_none {B : Nat} {w : World} {g gs cap : Nat} {T : TabD} (h : IsTable B w g gs cap T) {n : Int} {i : Nat} {s : ProcD} (hf : Found T n i s) (hs : s.state ≠ 3) (hs2 : s.state ≠ 2) (k : Int) (hk : k ≤ 0) :
    Calls Try.prog 32 #[.pointer (some ⟨g, 0, none⟩), .int .i64 n, .int .i64 k] w (TPost B w g gs T (.int .i64 0)) := by
  have HF := Lib.hid (tlive_yes h hf hs)
  have HR := Lib.hid (fun (W : World) (hW : Below w.heap.size w W) => (table_row (h.below hW) hf.2).2.2.1)
  have hq : (s.state == 2) = false := by simpa using hs2
  obtain ⟨x, hx⟩ : ∃ x, s.state = x := ⟨_, rfl⟩
  rw [hx] at HR hq
  have H := Lib.hid h
  have hk' : ¬ 0 < k := by omega
  clear h hf hs hs2 hx
  go_enter Try.func32, Try.ntmps32
  go_wp2_with fail
  refine HF.out.mono ?_
  rintro e w1 ⟨rfl, b1⟩
  have r2 := HR.out w1 b1
  have HB := Lib.hid b1
  clear b1
  go_wp2
  go_ret
  exact TPost.same H.out HB.out _
set_option maxHeartbeats 1600000 in
theorem tsleep_yes {B : Nat} {w : World} {g gs cap : Nat} {T : TabD} (h : IsTable B w g gs cap T) {n : Int} {i : Nat} {s : ProcD} (hf : Found T n i s) (hs : s.state ≠ 3) (hs2 : s.state ≠ 2) (k : Int) (hk : 0 < k) :
    Calls Try.prog 32 #[.pointer (some ⟨g, 0, none⟩), .int .i64 n, .int .i64 k] w (TPost B w g gs { T with list := T.list.set i (sleepP T.now k s) } (.int .i64 0)) := by
  have HF := Lib.hid (tlive_yes h hf hs)
  have HA := Lib.hid (fun (W : World) (hW : Below w.heap.size w W) => tafter_is (h.below hW) k)
  have hq : (s.state == 2) = false := by simpa using hs2
  obtain ⟨til, htil⟩ : ∃ x, afterT T.now k = x := ⟨_, rfl⟩
  have hsl : sleepP T.now k s = { s with state := 2, til := til } := by unfold sleepP; rw [htil]
  have HR := Lib.hid (fun (W : World) (hW : Below w.heap.size w W) => by
    have k0 := h.below hW
    have hi := (List.getElem?_eq_some_iff.1 hf.2).1
    have s1 := table_store (j := 2) k0 hf.2 (by decide) (.int .i64 2) (s' := { s with state := 2 }) rfl
    have hu2 : (T.list.set i { s with state := 2 })[i]? = some { s with state := 2 } := List.getElem?_set_self hi
    have s2 := table_store (j := 4) s1.1 hu2 (by decide) (.int .i64 til) (s' := { s with state := 2, til := til }) rfl
    dsimp only at s2
    rw [List.set_set, ← hsl] at s2
    exact And.intro (And.intro (table_row k0 hf.2).2.2.1 (table_free k0 (i * 6 + 2))) (And.intro (And.intro (table_row s1.1 hu2).2.2.2.2.1 (table_free s1.1 (i * 6 + 4))) (And.intro s2.1 (grown_transT s1.2 s2.2))))
  rw [htil] at HA
  obtain ⟨x, hx⟩ : ∃ x, s.state = x := ⟨_, rfl⟩
  rw [hx] at HR hq
  have H := Lib.hid h
  clear h hf hs hs2 hx hsl htil
  go_enter Try.func32, Try.ntmps32
  go_wp2_with fail
  refine HF.out.mono ?_
  rintro e w1 ⟨rfl, b1⟩
  have r2 := (HR.out w1 b1).1.1
  have HB := Lib.hid b1
  clear b1
  go_wp2_with fail
  refine (HA.out w1 HB.out).mono ?_
  rintro e w2 ⟨rfl, b2⟩
  have HB2 := Lib.hid (below_next HB.out b2)
  obtain ⟨⟨x2, f2⟩, ⟨x4, f4⟩, ht, hg⟩ := HR.out w2 HB2.out
  have HT := Lib.hid (And.intro ht hg)
  clear r2 b2 ht hg
  go_wp2
  go_ret
  exact ⟨gs, _, rfl, HT.out.1, (TKeeps.of_below HB2.out).trans (.of_gs HT.out.2)⟩
end Go.Proofs.Ythainmbapikjiaa
