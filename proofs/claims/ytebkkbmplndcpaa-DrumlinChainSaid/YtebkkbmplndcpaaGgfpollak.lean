/- Pipes: Make, Count, Write, Read, by their walks. Pipes: Write and Read, by their walks. Processes in memory, and the program's small calls on them, by their walks. -/
import Derived.Test.YtebkkbmplndcpaaGcdemhafa
import Derived.Test.YtebkkbmplndcpaaGoldhionn
import Derived.Test.YtebkkbmplndcpaaGbgmncbfe
import Derived.Laws.MakeOwn
import Derived.Lib.MinMax
import Derived.RegionTactic
import Derived.ChangeAlike
import Derived.IntWalk
import Derived.Deep.DeepCutAuto
import Derived.Deep.CutBlock
namespace Go.Proofs.Ytebkkbmplndcpaa
open Go.RowKit Go.Sort
set_option linter.unusedVariables false
set_option linter.unusedSimpArgs false
set_option maxRecDepth 100000

def countP (fl : List PipeD) : Nat := (placesL thereB fl fl.length).length
theorem set_take {r : List Value} {j : Nat} (h : j < r.length) (v : Value) (vs : List Value) : (r.set j v).take (j + 1) ++ vs ++ (r.set j v).drop (j + 1 + vs.length) = r.take j ++ (v :: vs) ++ r.drop (j + (v :: vs).length) := by
  have e1 : (r.set j v).take (j + 1) = r.take j ++ [v] := by
    rw [List.take_add_one, List.take_set_of_le (Nat.le_refl _), List.getElem?_set_self h]
    rfl
  have e2 : (r.set j v).drop (j + 1 + vs.length) = r.drop (j + (v :: vs).length) := by
    rw [List.drop_set_of_lt (by omega), List.length_cons]
    congr 1
    omega
  rw [e1, e2]
  simp
/-- Cells of a row, stored one behind the other. -/
theorem rows_cells {B : Nat} {e : TypeId} {k gs n cap i : Nat} : ∀ (vs : List Value) (j : Nat) (w : World) (l : List (List Value)) (r : List Value), OwnsR' B w e k (.slice (some ⟨gs, 0, none⟩) n cap) l → l.length = n → l[i]? = some r → j + vs.length ≤ k →
    OwnsR' B (w.setCells gs (i * k + j) vs) e k (.slice (some ⟨gs, 0, none⟩) n cap) (l.set i (r.take j ++ vs ++ r.drop (j + vs.length))) ∧ w.grownBy (w.setCells gs (i * k + j) vs) (some gs)
  | [], j, w, l, r, h, hn, hr, hj => by
    have e : l.set i (r.take j ++ [] ++ r.drop (j + ([] : List Value).length)) = l := by
      rw [List.append_nil, List.length_nil, Nat.add_zero, List.take_append_drop]
      apply List.ext_getElem?
      intro m
      by_cases h9 : i = m
      · subst h9; rw [List.getElem?_set_self (List.getElem?_eq_some_iff.1 hr).1, hr]
      · rw [List.getElem?_set_ne h9]
    rw [e]
    exact ⟨h, grown_same _ _⟩
  | v :: vs, j, w, l, r, h, hn, hr, hj => by
    have hrl : r.length = k := h.1 r (List.mem_of_getElem? hr)
    rw [List.length_cons] at hj
    have s := h.stored hn hr (i := j) (by omega) v
    have hi := (List.getElem?_eq_some_iff.1 hr).1
    have ih := rows_cells vs (j + 1) _ (l.set i (r.set j v)) (r.set j v) s.1 (by rw [List.length_set]; exact hn) (List.getElem?_set_self hi) (by omega)
    rw [List.set_set, set_take (by omega)] at ih
    exact ⟨ih.1, grown_transP s.2 ih.2⟩
/-- The 68 cells of a row, stored: the row is another one. -/
theorem pipes_put {B : Nat} {w : World} {g gs : Nat} {fl : List PipeD} (h : IsPipes B w g gs fl) {i : Nat} {s s' : PipeD} (hu : fl[i]? = some s) (hok : okP s') :
    IsPipes B (w.setCells gs (i * 68) (pipeV s')) g gs (fl.set i s') ∧ w.grownBy (w.setCells gs (i * 68) (pipeV s')) (some gs) ∧ w.there gs (i * 68) 68 := by
  have hs := pipes_lts h hu
  have hk := rows_cells (i := i) (pipeV s') 0 w (pipesV fl) (pipeV s) h.2.1 (pipesV_length fl) (pipesV_get hu) (by rw [pipeV_length hok]; exact Nat.le_refl _)
  have e : (pipesV fl).set i ((pipeV s).take 0 ++ pipeV s' ++ (pipeV s).drop (0 + (pipeV s').length)) = pipesV (fl.set i s') := by
    rw [List.drop_of_length_le (by rw [pipeV_length hs, pipeV_length hok]; exact Nat.le_refl _)]
    unfold pipesV
    rw [List.map_set]
    simp
  rw [e, Nat.add_zero] at hk
  refine ⟨⟨?_, ?_, h.2.2.1, ?_⟩, hk.2, fun j hj => ⟨?_, pipes_free h _⟩⟩
  · rw [List.length_set, ← h.1]
    exact hk.2.block g (pipes_lt h).1 (by rw [Ne, Option.some.injEq]; exact fun e => h.apart e.symm)
  · rw [List.length_set]; exact hk.1
  · rw [List.length_set]
    refine ⟨h.2.2.2.1, h.2.2.2.2.1, fun u hu => ?_⟩
    rcases List.mem_or_eq_of_mem_set hu with hu | rfl
    · exact h.2.2.2.2.2 u hu
    · exact hok
  · have hx := pipes_range h hu j ((pipeV s)[j]'(by rw [pipeV_length hs]; exact hj)) (List.getElem?_eq_getElem _)
    rw [hx]; rfl
set_option maxHeartbeats 1600000 in
theorem pmake_yes {B : Nat} {w : World} {g gs : Nat} {fl : List PipeD} (h : IsPipes B w g gs fl) (i : Nat) (s : PipeD) (hi : firstI (fun s => !thereB s) fl = (i : Int)) (hu : fl[i]? = some s) :
    Calls Try.prog 17 #[.pointer (some ⟨g, 0, none⟩)] w (PipesPost B w g gs (fl.set i newP) (.tuple #[.int .i64 ((i : Int) + 1), .int .i64 0])) := by
  have c0 := pipes_facts h
  have hlen := h.2.2.2.2.1
  have hil := (List.getElem?_eq_some_iff.1 hu).1
  have HIX := Lib.hid (index_pipe fl (some ⟨gs, 0, none⟩) fl.length w (pipes_reads h) (by omega) okP h.2.2.2.2.2 h.2.2.2.2.2 (fun s => !thereB s) 55 #[] enters_make1 (gone_pred w))
  rw [hi] at HIX
  have H := Lib.hid h
  have HPUT := Lib.hid (fun (W : World) (hW : IsPipes B W g gs fl) => pipes_put hW hu okP_newP)
  obtain ⟨L, hL⟩ : ∃ L, fl.length = L := ⟨_, rfl⟩
  rw [hL] at c0 HIX hil hlen
  have HL := Lib.hid hL
  have hx0 : (0 : Int) ≤ (i : Int) := by omega
  have hx1 : (i : Int) < (L : Int) := by omega
  have hx2 : ¬ (i : Int) < 0 := by omega
  have hw1 : IntKind.i64.wrap ((i : Int) + 1) = (i : Int) + 1 := IntWalk.i64_in _ (by omega)
  have eNP : ((Try.zeroCells108.setIfInBounds 66 (.int .i64 1)).setIfInBounds 67 (.int .i64 1)) = (pipeV newP).toArray := by kernel_rfl
  have eL : ((Try.zeroCells108.setIfInBounds 66 (.int .i64 1)).setIfInBounds 67 (.int .i64 1)).toList = pipeV newP := by rw [eNP]
  have hNS : ((Try.zeroCells108.setIfInBounds 66 (.int .i64 1)).setIfInBounds 67 (.int .i64 1)).size = 68 := by rw [← Array.length_toList, eL, pipeV_length okP_newP]
  have hsz : (Try.prog.info? 108).map (·.size) = some ((Try.zeroCells108.setIfInBounds 66 (.int .i64 1)).setIfInBounds 67 (.int .i64 1)).size := by rw [hNS]; exact size_pipe
  have hone : ((Try.zeroCells108.setIfInBounds 66 (.int .i64 1)).setIfInBounds 67 (.int .i64 1)).all (·.oneCell') = true := by rw [eNP, List.all_toArray, List.all_eq_true]; exact pipeV_one newP
  have HNS := Lib.hid hNS
  clear h hu hi hL eNP hNS
  go_enter Try.func17, Try.ntmps17
  go_wp2_with fail
  refine HIX.out.mono ?_
  rintro e w1 ⟨rfl, b1⟩
  have h1 := H.out.below b1
  have c1 := pipes_facts h1
  rw [HL.out] at c1
  have hp := HPUT.out w1 h1
  obtain ⟨W3, hW3⟩ : ∃ x, w1.setCells gs (i * 68) (pipeV newP) = x := ⟨_, rfl⟩
  have hp12 := And.intro hp.1 hp.2.1
  rw [hW3] at hp12
  have HP := Lib.hid hp12
  have ht : w1.there gs (i * 68) ((Try.zeroCells108.setIfInBounds 66 (.int .i64 1)).setIfInBounds 67 (.int .i64 1)).size := by rw [HNS.out]; exact hp.2.2
  have HB := Lib.hid b1
  clear b1 h1 hp hp12 c0
  go_wp2_with (refine wpList_store_mid (by rfl) 108 _ _ (by rfl) gs (i * 68) ((Try.zeroCells108.setIfInBounds 66 (.int .i64 1)).setIfInBounds 67 (.int .i64 1)) (by rfl) (by rfl) ht hsz hone ?_; rw [eL, hW3]; clear ht hsz hone eL hW3; generalize ((Try.zeroCells108.setIfInBounds 66 (.int .i64 1)).setIfInBounds 67 (.int .i64 1)) = NP)
  go_ret2
  exact ⟨rfl, HP.out.1, grown_belowP HB.out HP.out.2⟩
end Go.Proofs.Ytebkkbmplndcpaa

namespace Go.Proofs.Ytebkkbmplndcpaa
open Go.RowKit Go.Sort
set_option linter.unusedVariables false
set_option linter.unusedSimpArgs false
set_option maxRecDepth 100000

/-- How many bytes go in, and the error. -/
def wrK (s : PipeD) (n : Nat) : Nat × Int := if n = 0 then (0, 0) else if s.readers = 0 then (0, 16) else if s.count = 64 then (0, 15) else (min n (64 - s.count), 0)
def WritePost (B : Nat) (w : World) (g gs : Nat) (fl : List PipeD) (i : Nat) (s : PipeD) (l : List Nat) (e : Ending) (w' : World) : Prop :=
  ∃ s', e = .returned (.tuple #[.int .i64 ((wrK s l.length).1 : Nat), .int .i64 (wrK s l.length).2]) ∧ IsPipes B w' g gs (fl.set i s') ∧ w.grownBy w' (some gs) ∧ content s' = content s ++ l.take (wrK s l.length).1 ∧ s'.readers = s.readers ∧ s'.writers = s.writers
set_option maxHeartbeats 1600000 in
theorem pwrite_is {B : Nat} {w : World} {g gs : Nat} {fl : List PipeD} (h : IsPipes B w g gs fl) (n : Int) (i : Nat) (hn : n = (i : Int) + 1) (s : PipeD) (hu : fl[i]? = some s) (hk : thereB s = true)
    (ba : Option Addr) (bn bc : Nat) (l : List Nat) (hb : Reads w ba bn l) (hbn : bn ≤ 1000000) (hbc : bn ≤ bc) (hne : l ≠ [] → ∀ x, ba = some x → x.block ≠ gs) :
    Calls Try.prog 29 #[.pointer (some ⟨g, 0, none⟩), .int .i64 n, .slice ba bn bc] w (WritePost B w g gs fl i s l) := by
  have HF := Lib.hid (pfind_yes h n i hn s hu hk)
  have hok := pipes_lts h hu
  obtain ⟨k1, k2, k3, k4, k5, k6⟩ := hok
  have H := Lib.hid h
  have HU := Lib.hid hu
  have hl := hb.1
  have HSELF := Lib.hid (pipes_setself hu)
  unfold WritePost
  rw [hl]
  by_cases h0 : bn = 0
  · have hK : wrK s bn = (0, 0) := by unfold wrK; rw [if_pos h0]
    rw [hK]
    have HL := Lib.hid hl
    subst h0
    clear h hu hk hn hb hne hl hK
    go_enter Try.func29, Try.ntmps29
    go_wp2_with fail
    refine HF.out.mono ?_
    rintro e w1 ⟨rfl, b1⟩
    have HB := Lib.hid b1
    clear b1
    go_wp2
    go_ret2
    exact ⟨s, rfl, by rw [HSELF.out]; exact H.out.below HB.out, grown_ofBelowP HB.out, by rw [List.take_zero, List.append_nil], rfl, rfl⟩
  have h0' : ¬ (bn : Int) = 0 := by omega
  by_cases hr0 : s.readers = 0
  · have hK : wrK s bn = (0, 16) := by unfold wrK; rw [if_neg h0, if_pos hr0]
    rw [hK]
    have hr0' : (s.readers : Int) = 0 := by omega
    clear h hu hk hn hb hne hl hK h0
    go_enter Try.func29, Try.ntmps29
    go_wp2_with fail
    refine HF.out.mono ?_
    rintro e w1 ⟨rfl, b1⟩
    obtain ⟨r0, r1, r2, r3⟩ := pipes_row (H.out.below b1) HU.out
    have HB := Lib.hid b1
    clear b1
    go_wp2
    go_ret2
    exact ⟨s, rfl, by rw [HSELF.out]; exact H.out.below HB.out, grown_ofBelowP HB.out, by rw [List.take_zero, List.append_nil], rfl, rfl⟩
  have hr0' : ¬ (s.readers : Int) = 0 := by omega
  by_cases hc0 : s.count = 64
  · have hK : wrK s bn = (0, 15) := by unfold wrK; rw [if_neg h0, if_neg hr0, if_pos hc0]
    rw [hK]
    have hc0' : (64 : Int) - (s.count : Int) = 0 := by omega
    have HRM := Lib.hid (fun (W : World) (hW : Below w.heap.size w W) => room_is (H.out.below hW) HU.out)
    rw [hc0'] at HRM
    clear h hu hk hn hb hne hl hK h0 hr0
    go_enter Try.func29, Try.ntmps29
    go_wp2_with fail
    refine HF.out.mono ?_
    rintro e w1 ⟨rfl, b1⟩
    obtain ⟨r0, r1, r2, r3⟩ := pipes_row (H.out.below b1) HU.out
    have HB := Lib.hid b1
    clear b1
    go_wp2_with fail
    refine (HRM.out w1 HB.out).mono ?_
    rintro e w2 ⟨rfl, rfl⟩
    go_wp2
    go_ret2
    exact ⟨s, rfl, by rw [HSELF.out]; exact H.out.below HB.out, grown_ofBelowP HB.out, by rw [List.take_zero, List.append_nil], rfl, rfl⟩
  obtain ⟨k, hkk⟩ : ∃ k, min bn (64 - s.count) = k := ⟨_, rfl⟩
  have hK : wrK s bn = (k, 0) := by unfold wrK; rw [if_neg h0, if_neg hr0, if_neg hc0, hkk]
  rw [hK]
  obtain ⟨b, off, rfl, hbl, hcell⟩ := hb.cellP (j := 0) (by omega)
  have hbgs : b ≠ gs := hne (by intro e; rw [e] at hl; simp at hl; omega) _ rfl
  have hmin : min (bn : Int) (64 - (s.count : Int)) = (k : Int) := by omega
  have hk0 : (0 : Int) ≤ (k : Int) := by omega
  have hkn : k ≤ bn := by omega
  have hkn' : (k : Int) ≤ (bn : Int) := by omega
  have hkc' : (k : Int) ≤ (bc : Int) := by omega
  have hk64 : s.count + k ≤ 64 := by omega
  have hrm : ¬ (64 : Int) - (s.count : Int) = 0 := by omega
  have HRM := Lib.hid (fun (W : World) (hW : Below w.heap.size w W) => room_is (H.out.below hW) HU.out)
  have HBY := Lib.hid hb.2.1
  have HL := Lib.hid hl
  have HC := Lib.hid (And.intro hbl (And.intro hcell hbgs))
  have HI := Lib.hid (List.getElem?_eq_some_iff.1 hu).1
  clear h hu hk hn hb hne hl hK h0 hr0 hc0 hkk hcell hbl hbgs k1 k2 k3 k4 k5 k6
  go_enter Try.func29, Try.ntmps29
  go_wp2_with fail
  refine HF.out.mono ?_
  rintro e w1 ⟨rfl, b1⟩
  obtain ⟨r0, r1, r2, r3⟩ := pipes_row (H.out.below b1) HU.out
  have HB := Lib.hid b1
  clear b1 r0 r1 r3
  go_wp2_with fail
  refine (HRM.out w1 HB.out).mono ?_
  rintro e w2 ⟨rfl, rfl⟩
  go_wp2_with fail
  refine (HRM.out w1 HB.out).mono ?_
  rintro e w2 ⟨rfl, rfl⟩
  clear r2 hrm
  go_wp2_with fail
  try rw [hmin]
  go_wp2_with fail
  go_loopw [12, 48] (fun _ v wr => ∃ (j : Nat) (sj : PipeD), v = .int .i64 (j : Int) ∧ j ≤ k ∧ Hid (IsPipes B wr g gs (fl.set i sj)) ∧ Hid (w.grownBy wr (some gs)) ∧ Hid (content sj = content s ++ l.take j ∧ sj.readers = s.readers ∧ sj.writers = s.writers)) (fun _ v _ => k - (intOf v).toNat)
  case atStart => exact ⟨0, s, rfl, Nat.zero_le _, Lib.hid (by rw [HSELF.out]; exact H.out.below HB.out), Lib.hid (grown_ofBelowP HB.out), Lib.hid ⟨by rw [List.take_zero, List.append_nil], rfl, rfl⟩⟩
  case round =>
    obtain ⟨j, sj, rfl, hj, HP, HG, HT⟩ := hrel
    by_cases hlt : j < k
    · have hsj : sj.count = s.count + j := by
        have := congrArg List.length HT.out.1
        rw [content_length, List.length_append, content_length, List.length_take, HL.out] at this
        omega
      have hcl : wr.cell? ⟨b, off + j, none⟩ = some (.int .u8 ((l.getD j 0 : Nat) : Int)) := (World.cell?_of_block (w := w) (a := ⟨b, off + j, none⟩) (HG.out.block b HC.out.1 (fun e => HC.out.2.2 (Option.some.inj e)))).trans (HC.out.2.1 j (by omega))
      obtain ⟨c, hc⟩ : ∃ c, l.getD j 0 = c := ⟨_, rfl⟩
      have hljs : l[j]? = some c := by
        rw [← hc, List.getD_eq_getElem?_getD, List.getElem?_eq_getElem (by rw [HL.out]; omega)]; rfl
      have hc256 : c < 256 := HBY.out c (List.mem_of_getElem? hljs)
      rw [hc] at hcl
      have huj : (fl.set i sj)[i]? = some sj := List.getElem?_set_self HI.out
      have hokj := pipes_lts HP.out huj
      have HPUT := Lib.hid (ringput_is HP.out huj (by omega) c hc256)
      have HNEXT : Hid (content (putP sj c) = content s ++ l.take (j + 1) ∧ (putP sj c).readers = s.readers ∧ (putP sj c).writers = s.writers) := Lib.hid ⟨by rw [content_put hokj (by omega), HT.out.1, List.take_add_one, hljs, List.append_assoc]; rfl, HT.out.2.1, HT.out.2.2⟩
      have hj0 : (0 : Int) ≤ (j : Int) := by omega
      have hj1 : (j : Int) < (k : Int) := by omega
      have HLT := Lib.hid hlt
      clear hsj hc hljs hc256 huj hokj hlt
      go_wp2_with fail
      refine HPUT.out.mono ?_
      rintro e w3 ⟨rfl, hp3, hg3⟩
      rw [List.set_set] at hp3
      have HP3 := Lib.hid hp3
      have HG3 := Lib.hid (grown_transP HG.out hg3)
      clear hp3 hg3 hcl
      go_wp2
      have h1 := HLT.out
      go_roundw
      case rel => exact ⟨j + 1, putP sj c, by go_num, HLT.out, HP3, HG3, HNEXT⟩
      case measure => simp [intOf]; omega
    · have hjk : j = k := by omega
      subst hjk
      have hj1 : ¬ (j : Int) < (j : Int) := by omega
      clear hlt
      go_wp2
      go_ret2
      first | exact ⟨sj, rfl, HP.out, HG.out, HT.out.1, HT.out.2.1, HT.out.2.2⟩ | exact ⟨rfl, sj, HP.out, HG.out, HT.out.1, HT.out.2.1, HT.out.2.2⟩
/-- How many bytes come out, and the error. -/
def rdK (s : PipeD) (n : Int) : Nat × Int := if n < 0 then (0, 1) else if 0 < n ∧ s.count = 0 ∧ 0 < s.writers then (0, 15) else ((min n (s.count : Int)).toNat, 0)
def ReadPost (B : Nat) (w : World) (g gs : Nat) (fl : List PipeD) (i : Nat) (s : PipeD) (n : Int) (e : Ending) (w' : World) : Prop :=
  ∃ s' v, e = .returned (.tuple #[v, .int .i64 (rdK s n).2]) ∧ Owns w.heap.size w' v ((content s).take (rdK s n).1) ∧ IsPipes B w' g gs (fl.set i s') ∧ w.grownBy w' (some gs) ∧ content s' = (content s).drop (rdK s n).1 ∧ s'.readers = s.readers ∧ s'.writers = s.writers
theorem IsPipes.keptP {B : Nat} {w w' : World} {g gs : Nat} {fl : List PipeD} {row : Option Nat} (h : IsPipes B w g gs fl) (hg : w.grownBy w' row) (h1 : row ≠ some g) (h2 : row ≠ some gs) : IsPipes B w' g gs fl :=
  ⟨(hg.block g (pipes_lt h).1 (fun e => h1 e.symm)).trans h.1, h.2.1.kept hg (.inr (fun e => h2 e.symm)), h.2.2⟩
theorem grown_newP {w w2 w3 : World} {row r2 : Option Nat} (h : w.grownBy w2 row) (k : w2.grownBy w3 r2) (hb : ∀ b, r2 = some b → w.heap.size ≤ b) : w.grownBy w3 row :=
  ⟨k.os.trans h.os, k.tape.trans h.tape, k.output.trans h.output, Nat.le_trans h.size k.size, fun j hj hne => (k.block j (Nat.lt_of_lt_of_le hj h.size) (fun e => by have := hb j e.symm; omega)).trans (h.block j hj hne)⟩
theorem Owns.keptP {B : Nat} {w w' : World} {v : Value} {l : List Nat} {row : Option Nat} (h : Owns B w v l) (hg : w.grownBy w' row) (hne : v.ownBlock = none ∨ v.ownBlock ≠ row) : Owns B w' v l := ⟨h.1, h.2.kept hg hne⟩
set_option maxHeartbeats 1600000 in
theorem pread_is {B : Nat} {w : World} {g gs : Nat} {fl : List PipeD} (h : IsPipes B w g gs fl) (n : Int) (i : Nat) (hn : n = (i : Int) + 1) (s : PipeD) (hu : fl[i]? = some s) (hk : thereB s = true) (m : Int) (hm0 : 0 ≤ m) :
    Calls Try.prog 30 #[.pointer (some ⟨g, 0, none⟩), .int .i64 n, .int .i64 m] w (ReadPost B w g gs fl i s m) := by
  have HF := Lib.hid (pfind_yes h n i hn s hu hk)
  have hok := pipes_lts h hu
  obtain ⟨k1, k2, k3, k4, k5, k6⟩ := hok
  have H := Lib.hid h
  have HU := Lib.hid hu
  have HSELF := Lib.hid (pipes_setself hu)
  have hgsl := (pipes_lt h).2.1
  unfold ReadPost
  have hm1 : ¬ m < 0 := by omega
  by_cases h0 : 0 < m ∧ s.count = 0 ∧ 0 < s.writers
  · have hK : rdK s m = (0, 15) := by unfold rdK; rw [if_neg hm1, if_pos h0]
    rw [hK]
    obtain ⟨h1, h2, h3⟩ := h0
    have h2' : (s.count : Int) = 0 := by omega
    have h3' : (0 : Int) < (s.writers : Int) := by omega
    clear h hu hk hn hK h2 h3
    go_enter Try.func30, Try.ntmps30
    go_wp2_with fail
    refine HF.out.mono ?_
    rintro e w1 ⟨rfl, b1⟩
    obtain ⟨r0, r1, r2, r3⟩ := pipes_row (H.out.below b1) HU.out
    have HB := Lib.hid b1
    clear b1
    go_wp2
    go_ret2
    exact ⟨s, _, rfl, owns_nil _ _, by rw [HSELF.out]; exact H.out.below HB.out, grown_ofBelowP HB.out, rfl, rfl, rfl⟩
  obtain ⟨k, hkk⟩ := Int.eq_ofNat_of_zero_le (show 0 ≤ min m (s.count : Int) by omega)
  have hK : rdK s m = (k, 0) := by unfold rdK; rw [if_neg hm1, if_neg h0, hkk]; rfl
  rw [hK]
  have hks : k ≤ s.count := by omega
  have hk64 : k ≤ 64 := by omega
  have HI := Lib.hid (List.getElem?_eq_some_iff.1 hu).1
  have H0 := Lib.hid h0
  have HKS := Lib.hid hks
  have HW := Lib.hid hgsl
  have HGL := Lib.hid (pipes_lt H.out).1
  have HBY := Lib.hid (content_bytes (pipes_lts h hu))
  obtain ⟨cn, hcn⟩ : ∃ cn : Int, (s.count : Int) = cn := ⟨_, rfl⟩
  obtain ⟨wn, hwn⟩ : ∃ wn : Int, (s.writers : Int) = wn := ⟨_, rfl⟩
  have hgrd : ¬ 0 < m ∨ ¬ cn = 0 ∨ ¬ 0 < wn := by
    by_cases a1 : 0 < m
    · by_cases a2 : s.count = 0
      · exact .inr (.inr (by intro a3; exact h0 ⟨a1, a2, by omega⟩))
      · exact .inr (.inl (by omega))
    · exact .inl a1
  rw [hcn] at hkk
  have HR := Lib.hid (fun (W : World) (hW : Below w.heap.size w W) => pipes_row (H.out.below hW) HU.out)
  rw [hcn, hwn] at HR
  clear h hu hk hn hK h0 hks hgsl k1 k2 k3 k4 k5 k6 hcn hwn
  have main : Calls Try.prog 30 #[.pointer (some ⟨g, 0, none⟩), .int .i64 n, .int .i64 m] w (fun e w' => ∃ s' v, e = .returned (.tuple #[v, .int .i64 0]) ∧ Owns w.heap.size w' v ((content s).take k) ∧ IsPipes B w' g gs (fl.set i s') ∧ w.grownBy w' (some gs) ∧ content s' = (content s).drop k ∧ s'.readers = s.readers ∧ s'.writers = s.writers) := by
    go_enter Try.func30, Try.ntmps30
    go_wp2_with fail
    refine HF.out.mono ?_
    rintro e w1 ⟨rfl, b1⟩
    obtain ⟨r0, r1, r2, r3⟩ := HR.out w1 b1
    have HB := Lib.hid b1
    clear b1 r0 r2
    go_upto_region 6 with fail
    go_cut [38] (fun v wc => v = .bool false ∧ Hid (wc = w1))
    case first =>
      by_cases a1 : 0 < m <;> by_cases a2 : cn = 0 <;> by_cases a3 : 0 < wn
      all_goals first | (exfalso; omega) | skip
      all_goals clear hgrd
      all_goals go_wp2_with fail
      all_goals go_meet
      all_goals exact ⟨rfl, Lib.hid rfl⟩
    case rest =>
      obtain ⟨rfl, hw⟩ := hcut
      obtain rfl := hw.out
      clear hgrd hw
      go_wp2_with fail
      try rw [hkk]
      go_wp2_with fail
      go_loopw [10, 46] (fun v x wr => ∃ (j : Nat) (sj : PipeD), x = .int .i64 (j : Int) ∧ j ≤ k ∧ Hid (Owns w.heap.size wr v ((content s).take j)) ∧ Hid (IsPipes B wr g gs (fl.set i sj)) ∧ Hid (w.grownBy wr (some gs)) ∧ Hid (content sj = (content s).drop j ∧ sj.readers = s.readers ∧ sj.writers = s.writers)) (fun _ v _ => k - (intOf v).toNat)
      case atStart => exact ⟨0, s, rfl, Nat.zero_le _, Lib.hid (owns_nil _ _), Lib.hid (by rw [HSELF.out]; exact H.out.below HB.out), Lib.hid (grown_ofBelowP HB.out), Lib.hid ⟨rfl, rfl, rfl⟩⟩
      case round =>
        obtain ⟨j, sj, rfl, hj, HO, HP, HG, HT⟩ := hrel
        by_cases hlt : j < k
        · have hsj : sj.count = s.count - j := by
            have := congrArg List.length HT.out.1
            rw [content_length, List.length_drop, content_length] at this
            exact this
          have hks := HKS.out
          have hsj0 : 0 < sj.count := by omega
          have huj : (fl.set i sj)[i]? = some sj := List.getElem?_set_self HI.out
          have hokj := pipes_lts HP.out huj
          have hct := content_take hokj hsj0
          have HTK := Lib.hid (ringtake_is HP.out huj hsj0)
          obtain ⟨c, hc⟩ : ∃ c, sj.bs.getD sj.first 0 = c := ⟨_, rfl⟩
          rw [hc] at hct HTK
          rw [HT.out.1] at hct
          have hlj : (content s)[j]? = some c := by
            have := congrArg List.head? hct
            rwa [List.head?_drop] at this
          have HNEXT : Hid (content (takeP sj) = (content s).drop (j + 1) ∧ (takeP sj).readers = s.readers ∧ (takeP sj).writers = s.writers) := Lib.hid ⟨by
            have := congrArg List.tail hct
            rw [List.tail_drop] at this
            exact this.symm, HT.out.2.1, HT.out.2.2⟩
          have HTA : Hid ((content s).take (j + 1) = (content s).take j ++ [c]) := Lib.hid (by rw [List.take_add_one, hlj]; rfl)
          have HC256 := Lib.hid (HBY.out c (List.mem_of_getElem? hlj))
          have HLEN : Hid (((content s).take j).length ≤ 64) := Lib.hid (by rw [List.length_take]; omega)
          have hj1 : (j : Int) < (k : Int) := by omega
          have HLT := Lib.hid hlt
          have hwsz := HG.out.size
          have HNGS : Hid (u10.ownBlock = none ∨ u10.ownBlock ≠ some gs) := Lib.hid (by
            right
            intro e
            have := HO.out.lt gs e
            have := HW.out
            omega)
          clear hsj hks hsj0 huj hokj hct hc hlj hlt
          go_wp2_with fail
          refine HTK.out.mono ?_
          rintro e w3 ⟨rfl, hp3, hg3⟩
          rw [List.set_set] at hp3
          have HP3 := Lib.hid hp3
          have HG3 := Lib.hid (grown_transP HG.out hg3)
          have HO3 := Lib.hid (HO.out.keptP hg3 HNGS.out)
          have hsz3 := HG3.out.size
          clear hp3 hg3
          go_wp2_with (at_builtin; refine wpList_append_bytes rfl _ _ rfl w.heap.size _ _ rfl (HO3.out.alloc _) _ _ _ rfl [c] (reads_one _ c HC256.out) (by have := HLEN.out; omega) (by simp; omega) ?_; intro v' w4 ho4 hg4)
          have h1 := HLT.out
          have HB4 := Lib.hid (below_box w3 (.cells #[byteV c] 5))
          have HP4 : Hid (IsPipes B w4 g gs (fl.set i (takeP sj))) := Lib.hid ((HP3.out.below HB4.out).keptP hg4 (fun e => by have := HO.out.lt g e; have := HGL.out; omega) (fun e => by have := HO.out.lt gs e; have := HW.out; omega))
          go_roundw
          case rel => exact ⟨j + 1, takeP sj, by go_num, HLT.out, Lib.hid (by rw [HTA.out]; exact ho4), HP4, Lib.hid (grown_newP (grown_transP HG3.out (grown_ofBelowP HB4.out)) hg4 (fun b e => HO.out.lt b e)), HNEXT⟩
          case measure => simp [intOf]; omega
        · have hjk : j = k := by omega
          subst hjk
          have hj1 : ¬ (j : Int) < (j : Int) := by omega
          clear hlt
          go_wp2
          go_ret2
          first | exact ⟨sj, _, rfl, HO.out, HP.out, HG.out, HT.out.1, HT.out.2.1, HT.out.2.2⟩ | (trace_state; fail)
  exact main
end Go.Proofs.Ytebkkbmplndcpaa

namespace Go.Proofs.Ytebkkbmplndcpaa
open Go.RowKit Go.Sort
set_option linter.unusedVariables false
set_option linter.unusedSimpArgs false
set_option maxRecDepth 100000

/-- A process; a table of them. -/
structure ProcD where
  pid : Int
  parent : Int
  state : Int
  code : Int
  til : Int
  killed : Bool
deriving DecidableEq
structure TabD where
  most : Int
  last : Int
  now : Int
  list : List ProcD
def procV (u : ProcD) : List Value := [.int .i64 u.pid, .int .i64 u.parent, .int .i64 u.state, .int .i64 u.code, .int .i64 u.til, .bool u.killed]
def procsV (l : List ProcD) : List (List Value) := l.map procV
theorem procsV_length (l : List ProcD) : (procsV l).length = l.length := by unfold procsV; rw [List.length_map]
theorem procsV_get {l : List ProcD} {i : Nat} {u : ProcD} (h : l[i]? = some u) : (procsV l)[i]? = some (procV u) := by unfold procsV; rw [List.getElem?_map, h]; rfl
theorem procsV_one (l : List ProcD) : OneRows (procsV l) := by
  intro p hp u hu
  unfold procsV at hp
  obtain ⟨x, _, rfl⟩ := List.mem_map.1 hp
  simp only [procV, List.mem_cons, List.not_mem_nil, or_false] at hu
  rcases hu with rfl | rfl | rfl | rfl | rfl | rfl <;> rfl
theorem procs_rows (fl : List ProcD) : ∀ p ∈ procsV fl, p.length = 6 := by
  intro p hp
  unfold procsV at hp
  rw [List.mem_map] at hp
  obtain ⟨u, _, rfl⟩ := hp
  rfl
def TabOk (T : TabD) : Prop := 1 ≤ T.most ∧ T.most ≤ 16 ∧ 1 ≤ T.list.length ∧ T.list.length ≤ 16 ∧ 0 ≤ T.now ∧ T.now ≤ 1099511627776 ∧ 0 ≤ T.last
def IsTable (B : Nat) (w : World) (g gs cap : Nat) (T : TabD) : Prop :=
  w.heap[g]? = some (.cells #[.int .i64 T.most, .int .i64 T.last, .int .i64 T.now, .slice (some ⟨gs, 0, none⟩) T.list.length cap] 77 (0, 0)) ∧ OwnsR' B w 40 6 (.slice (some ⟨gs, 0, none⟩) T.list.length cap) (procsV T.list) ∧ B ≤ g ∧ TabOk T
theorem cell_atT {w : World} {g : Nat} {cs : Array Value} {t : TypeId} (h : w.heap[g]? = some (.cells cs t (0, 0))) (j : Nat) : w.cell? ⟨g, j, none⟩ = cs[j]? := by
  unfold World.cell?; rw [h]; rfl
theorem frozen_atT {w : World} {g : Nat} {cs : Array Value} {t : TypeId} (h : w.heap[g]? = some (.cells cs t (0, 0))) (j : Nat) : w.frozen? ⟨g, j, none⟩ = false := by
  unfold World.frozen?; rw [h]; simp
theorem OwnsR'.apartT {B : Nat} {w : World} {e t : TypeId} {k : Nat} {v : Value} {l : List (List Value)} {g : Nat} {C : Array Value} {fr : Nat × Nat} (h : OwnsR' B w e k v l) (hg : w.heap[g]? = some (.cells C t fr)) (hne : e ≠ t) : v.ownBlock ≠ some g := by
  obtain ⟨_, _, h⟩ := h
  rcases h with ⟨rfl, _⟩ | ⟨g', cap, cur, rfl, _, hg', _⟩
  · intro h; cases h
  · intro h
    obtain rfl : g' = g := by simpa [Value.ownBlock] using h
    rw [hg] at hg'
    simp at hg'
    exact hne hg'.2.1.symm
theorem IsTable.apart {B : Nat} {w : World} {g gs cap : Nat} {T : TabD} (h : IsTable B w g gs cap T) : gs ≠ g := by
  have := h.2.1.apartT h.1 (by decide)
  intro e
  exact this (by rw [e]; rfl)
theorem IsTable.below {B : Nat} {w w' : World} {g gs cap : Nat} {T : TabD} (h : IsTable B w g gs cap T) (b : Below w.heap.size w w') : IsTable B w' g gs cap T :=
  ⟨(b.block g (Array.getElem?_eq_some_iff.1 h.1).1).trans h.1, h.2.1.below b, h.2.2⟩
theorem IsTable.less {B B' : Nat} {w : World} {g gs cap : Nat} {T : TabD} (h : IsTable B w g gs cap T) (hB : B' ≤ B) : IsTable B' w g gs cap T := ⟨h.1, h.2.1.less hB, Nat.le_trans hB h.2.2.1, h.2.2.2⟩
theorem table_facts {B : Nat} {w : World} {g gs cap : Nat} {T : TabD} (h : IsTable B w g gs cap T) : w.cell? ⟨g, 0, none⟩ = some (.int .i64 T.most) ∧ w.cell? ⟨g, 1, none⟩ = some (.int .i64 T.last) ∧ w.cell? ⟨g, 2, none⟩ = some (.int .i64 T.now) ∧ w.cell? ⟨g, 3, none⟩ = some (.slice (some ⟨gs, 0, none⟩) T.list.length cap) :=
  ⟨cell_atT h.1 0, cell_atT h.1 1, cell_atT h.1 2, cell_atT h.1 3⟩
theorem table_lt {B : Nat} {w : World} {g gs cap : Nat} {T : TabD} (h : IsTable B w g gs cap T) : g < w.heap.size ∧ gs < w.heap.size ∧ B ≤ gs := ⟨(Array.getElem?_eq_some_iff.1 h.1).1, (h.2.1.lt gs rfl).2, (h.2.1.lt gs rfl).1⟩
theorem table_row {B : Nat} {w : World} {g gs cap : Nat} {T : TabD} (h : IsTable B w g gs cap T) {i : Nat} {s : ProcD} (hu : T.list[i]? = some s) :
    w.cell? ⟨gs, i * 6, none⟩ = some (.int .i64 s.pid) ∧ w.cell? ⟨gs, i * 6 + 1, none⟩ = some (.int .i64 s.parent) ∧ w.cell? ⟨gs, i * 6 + 2, none⟩ = some (.int .i64 s.state) ∧ w.cell? ⟨gs, i * 6 + 3, none⟩ = some (.int .i64 s.code) ∧ w.cell? ⟨gs, i * 6 + 4, none⟩ = some (.int .i64 s.til) ∧ w.cell? ⟨gs, i * 6 + 5, none⟩ = some (.bool s.killed) := by
  have hh := h.2.1.head.2.2 i _ (procsV_get hu)
  exact ⟨hh 0 _ rfl, hh 1 _ rfl, hh 2 _ rfl, hh 3 _ rfl, hh 4 _ rfl, hh 5 _ rfl⟩
theorem table_free {B : Nat} {w : World} {g gs cap : Nat} {T : TabD} (h : IsTable B w g gs cap T) (j : Nat) : w.frozen? ⟨gs, j, none⟩ = false := h.2.1.frozen (procsV_length T.list) j
theorem table_reads {B : Nat} {w : World} {g gs cap : Nat} {T : TabD} (h : IsTable B w g gs cap T) : ReadsR w (some ⟨gs, 0, none⟩) 6 (procsV T.list) := by
  obtain ⟨a, c, hv, hr, _, _⟩ := h.2.1.reads
  obtain ⟨rfl, _, _⟩ := Value.slice.inj hv
  exact hr
set_option maxHeartbeats 1600000 in
theorem index_proc (l : List ProcD) (a : Option Addr) (cap : Nat) (w : World) (hr : ReadsR w a 6 (procsV l)) (hn : l.length ≤ 100000) (S : ProcD → Prop) (hS : ∀ r ∈ l, S r) (p : ProcD → Bool)
    (g : Nat) (lb : Array Value) (eg : ∀ args w, (callFunc g args).run Try.prog w = .ok (.enter g args) w) (hp : PredV g lb (fun u => .agg (procV u).toArray) S p w) :
    Calls Try.prog 73 #[.slice a l.length cap, .func (.func g) #[] lb] w fun e w' => e = .returned (.int .i64 (firstI p l)) ∧ Below w.heap.size w w' := by
  have HR := Lib.hid hr
  have HS := Lib.hid hS
  have HP := Lib.hid hp
  clear hr hS hp
  obtain ⟨n, hnn⟩ : ∃ n, l.length = n := ⟨_, rfl⟩
  obtain ⟨z, hz⟩ : ∃ z, firstI p l = z := ⟨_, rfl⟩
  rw [hnn] at hn ⊢
  rw [hz]
  have HZ := Lib.hid hz
  have HN := Lib.hid hnn
  clear hnn hz
  go_enter Try.func73, Try.ntmps73
  go_wp2
  go_loopw [8] (fun i wr => ∃ k : Nat, k ≤ n ∧ i = .int .i64 k ∧ Hid (placesL p l k = []) ∧ Hid (Below w.heap.size w wr)) (fun i _ => n - (intOf i).toNat)
  case atStart => exact ⟨0, Nat.zero_le _, rfl, rfl, Below.refl _ _⟩
  case round =>
    obtain ⟨k, hk, rfl, HO, HB⟩ := hrel
    by_cases hlt : k < n
    · obtain ⟨u, hrow⟩ : ∃ r, l[k]? = some r := ⟨_, List.getElem?_eq_getElem (by rw [HN.out]; exact hlt)⟩
      have HRS := Lib.hid (HS.out u (List.mem_of_getElem? hrow))
      have HROW := Lib.hid hrow
      obtain ⟨b, off, rfl, hb, hc⟩ := (HR.out.below HB.out).row (procsV_get hrow)
      have c0 : wr.cell? ⟨b, off + k * 6, none⟩ = some (.int .i64 u.pid) := hc 0 _ rfl
      have c1 : wr.cell? ⟨b, off + k * 6 + 1, none⟩ = some (.int .i64 u.parent) := by have := hc 1 _ rfl; rwa [← Nat.add_assoc] at this
      have c2 : wr.cell? ⟨b, off + k * 6 + 2, none⟩ = some (.int .i64 u.state) := by have := hc 2 _ rfl; rwa [← Nat.add_assoc] at this
      have c3 : wr.cell? ⟨b, off + k * 6 + 3, none⟩ = some (.int .i64 u.code) := by have := hc 3 _ rfl; rwa [← Nat.add_assoc] at this
      have c4 : wr.cell? ⟨b, off + k * 6 + 4, none⟩ = some (.int .i64 u.til) := by have := hc 4 _ rfl; rwa [← Nat.add_assoc] at this
      have c5 : wr.cell? ⟨b, off + k * 6 + 5, none⟩ = some (.bool u.killed) := by have := hc 5 _ rfl; rwa [← Nat.add_assoc] at this
      clear hc hrow hb
      have hcall := fun W hW => HP.out W u HRS.out hW
      have hx1 : (0 : Int) ≤ (k : Int) := by omega
      have hx2 : (k : Int) < (n : Int) := by omega
      cases hpu : p u with
      | true =>
        simp only [hpu] at hcall
        have HZ2 : Hid (z = k) := by show _ = _; rw [← HZ.out]; exact firstI_hit HO.out HROW.out hpu
        clear hpu
        go_wp2_with (go_at_fn g; refine (hcall _ HB.out).mono ?_; rintro e w1 ⟨rfl, b1⟩)
        go_ret
        exact ⟨ret_int HZ2.out.symm, below_next HB.out b1⟩
      | false =>
        simp only [hpu] at hcall
        have HNext : Hid (placesL p l (k + 1) = []) := (placesL_no HROW.out hpu).trans HO.out
        clear hpu
        go_wp2_with (go_at_fn g; refine (hcall _ HB.out).mono ?_; rintro e w1 ⟨rfl, b1⟩)
        go_roundw
        case rel => exact ⟨k + 1, by omega, by go_num, HNext, below_next HB.out b1⟩
        case measure => simp [intOf]; omega
    · have hkn : k = n := by omega
      subst hkn
      go_wp2
      go_ret
      refine ⟨ret_int ?_, HB.out⟩
      rw [← HZ.out]
      unfold firstI
      rw [HN.out, HO.out]
/-- Where one of a Pid is. -/
def pidB (n : Int) (u : ProcD) : Bool := decide (u.pid = n)
def findI (l : List ProcD) (n : Int) : Int := firstI (pidB n) l
theorem enters_find1 (args : Array Value) (w : World) : (callFunc 83 args).run Try.prog w = .ok (.enter 83 args) w := enters_of Try.func83 (by kernel_rfl) rfl args w
theorem beq_dec (x y : Int) : (x == y) = decide (x = y) := by rw [Bool.eq_iff_iff]; simp
theorem run_eql_int (x y : Int) (W : World) : (binOp .eql 3 (.int .i64 x) (.int .i64 y)).run Try.prog W = .ok (.bool (decide (x = y))) W := by
  have : (x == y) = decide (x = y) := by rw [Bool.eq_iff_iff]; simp
  simp [binOp, Op.intCmp, this]
set_option maxHeartbeats 1600000 in
theorem pid_pred {w : World} {bp : Nat} {n : Int} (hb : bp < w.heap.size) (h : w.cell? ⟨bp, 0, none⟩ = some (.int .i64 n)) : PredV 83 #[.pointer (some ⟨bp, 0, none⟩)] (fun s => .agg (procV s).toArray) (fun _ => True) (pidB n) w := by
  intro W s _ hB
  have hc := (hB.cell (p := ⟨bp, 0, none⟩) hb).trans h
  have hbW : bp < W.heap.size := Nat.lt_of_lt_of_le hb hB.size
  have b0 := below_box W (.cells #[.int .i64 s.pid, .int .i64 s.parent, .int .i64 s.state, .int .i64 s.code, .int .i64 s.til, .bool s.killed] 40)
  have hc2 := (b0.cell (p := ⟨bp, 0, none⟩) hbW).trans hc
  clear hB h hb hc
  have hq := run_eql_int s.pid n
  show Calls Try.prog 83 #[.agg #[.int .i64 s.pid, .int .i64 s.parent, .int .i64 s.state, .int .i64 s.code, .int .i64 s.til, .bool s.killed], .pointer (some ⟨bp, 0, none⟩)] W fun e w' => e = .returned (.bool (decide (s.pid = n))) ∧ Below W.heap.size W w'
  clear hq
  go_enter Try.func83, Try.ntmps83
  go_wp2
  go_ret
  refine ⟨?_, b0⟩
  show Ending.returned (.bool (s.pid == n)) = _
  rw [beq_dec]
set_option maxHeartbeats 1600000 in
theorem tfind_yes {B : Nat} {w : World} {g gs cap : Nat} {T : TabD} (h : IsTable B w g gs cap T) (n : Int) (i : Nat) (s : ProcD) (hi : findI T.list n = (i : Int)) (hu : T.list[i]? = some s) :
    Calls Try.prog 47 #[.pointer (some ⟨g, 0, none⟩), .int .i64 n] w fun e w' => e = .returned (.tuple #[.pointer (some ⟨gs, i * 6, none⟩), .int .i64 0]) ∧ Below w.heap.size w w' := by
  have b0 := below_box w (.cells #[.int .i64 n] 3)
  have n0 := heap_alloc_new w (.cells #[.int .i64 n] 3)
  have h0 := h.below b0
  obtain ⟨bp, hbp⟩ : ∃ x, w.heap.size = x := ⟨_, rfl⟩
  obtain ⟨w1, hw1⟩ : ∃ x, w.alloc (.cells #[.int .i64 n] 3) = x := ⟨_, rfl⟩
  rw [hw1] at b0 n0 h0
  rw [hbp] at n0
  obtain ⟨c0, c1, c2, c3⟩ := table_facts h0
  have hil := (List.getElem?_eq_some_iff.1 hu).1
  have hlen := h.2.2.2.2.2.2.1
  have HIX := Lib.hid (index_proc T.list (some ⟨gs, 0, none⟩) cap w1 (table_reads h0) (by omega) (fun _ => True) (fun _ _ => trivial) (pidB n) 83 #[.pointer (some ⟨bp, 0, none⟩)] enters_find1 (pid_pred (Array.getElem?_eq_some_iff.1 n0).1 (cell_atT n0 0)))
  have H0 := Lib.hid h0
  have HB0 := Lib.hid b0
  unfold findI at hi
  rw [hi] at HIX
  obtain ⟨L, hL⟩ : ∃ L, T.list.length = L := ⟨_, rfl⟩
  rw [hL] at hil HIX c3 hlen
  have HL := Lib.hid hL
  have hx0 : (0 : Int) ≤ (i : Int) := by omega
  have hx1 : (i : Int) < (L : Int) := by omega
  have hx2 : ¬ (i : Int) < 0 := by omega
  clear h h0 b0 hu hi hL c0 c1 c2 n0
  go_enter Try.func47, Try.ntmps47
  go_wp2_with fail
  refine HIX.out.mono ?_
  rintro e w2 ⟨rfl, b2⟩
  have c3' := (table_facts (H0.out.below b2)).2.2.2
  rw [HL.out] at c3'
  have HB2 := Lib.hid (below_next HB0.out b2)
  clear b2 c3 hw1
  go_wp2
  go_ret2
  exact ⟨rfl, HB2.out⟩
set_option maxHeartbeats 1600000 in
theorem tfind_no {B : Nat} {w : World} {g gs cap : Nat} {T : TabD} (h : IsTable B w g gs cap T) (n : Int) (hi : findI T.list n = -1) :
    Calls Try.prog 47 #[.pointer (some ⟨g, 0, none⟩), .int .i64 n] w fun e w' => e = .returned (.tuple #[.pointer none, .int .i64 18]) ∧ Below w.heap.size w w' := by
  have b0 := below_box w (.cells #[.int .i64 n] 3)
  have n0 := heap_alloc_new w (.cells #[.int .i64 n] 3)
  have h0 := h.below b0
  obtain ⟨bp, hbp⟩ : ∃ x, w.heap.size = x := ⟨_, rfl⟩
  obtain ⟨w1, hw1⟩ : ∃ x, w.alloc (.cells #[.int .i64 n] 3) = x := ⟨_, rfl⟩
  rw [hw1] at b0 n0 h0
  rw [hbp] at n0
  obtain ⟨c0, c1, c2, c3⟩ := table_facts h0
  have hlen := h.2.2.2.2.2.2.1
  have HIX := Lib.hid (index_proc T.list (some ⟨gs, 0, none⟩) cap w1 (table_reads h0) (by omega) (fun _ => True) (fun _ _ => trivial) (pidB n) 83 #[.pointer (some ⟨bp, 0, none⟩)] enters_find1 (pid_pred (Array.getElem?_eq_some_iff.1 n0).1 (cell_atT n0 0)))
  have HB0 := Lib.hid b0
  unfold findI at hi
  rw [hi] at HIX
  clear h h0 b0 hi c0 c1 c2 n0
  go_enter Try.func47, Try.ntmps47
  go_wp2_with fail
  refine HIX.out.mono ?_
  rintro e w2 ⟨rfl, b2⟩
  have HB2 := Lib.hid (below_next HB0.out b2)
  clear b2 c3 hw1
  go_wp2
  go_ret2
  exact ⟨rfl, HB2.out⟩
end Go.Proofs.Ytebkkbmplndcpaa
