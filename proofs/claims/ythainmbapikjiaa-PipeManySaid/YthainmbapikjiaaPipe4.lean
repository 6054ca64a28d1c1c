/- Pipes: Make, Count, Write, Read, by their walks. -/
import Derived.Test.YthainmbapikjiaaPipe3
namespace Go.Proofs.Ythainmbapikjiaa
open Go.RowKit Go.Sort
set_option linter.unusedVariables false
set_option linter.unusedSimpArgs false
set_option maxRecDepth 100000

def countP (fl : List PipeD) : Nat := (placesL thereB fl fl.length).length
set_option maxHeartbeats 1600000 in
theorem pcount_is {B : Nat} {w : World} {g gs : Nat} {fl : List PipeD} (h : IsPipes B w g gs fl) :
    Calls Try.prog 24 #[.pointer (some ⟨g, 0, none⟩)] w fun e w' => e = .returned (.int .i64 (countP fl)) ∧ Below w.heap.size w w' := by
  have c0 := pipes_facts h
  have hlen := h.2.2.2.2.1
  have HPL := Lib.hid (places_pipe fl (some ⟨gs, 0, none⟩) fl.length w (pipes_reads h) (by omega) okP h.2.2.2.2.2 h.2.2.2.2.2 thereB 74 #[] enters_there (there_pred w))
  clear h
  obtain ⟨n, hn⟩ : ∃ n, countP fl = n := ⟨_, rfl⟩
  have HN : Hid ((natV (placesL thereB fl fl.length)).length = n) := Lib.hid (by rw [natV_length]; exact hn)
  rw [hn]
  clear hn
  go_enter Try.func24, Try.ntmps24
  go_wp2_with fail
  refine HPL.out.mono ?_
  rintro e w1 ⟨v, rfl, ho, b1⟩
  obtain ⟨a, cap, rfl, _, _, _⟩ := ho.reads
  rw [HN.out]
  have HB := Lib.hid b1
  clear ho b1
  go_wp2
  go_ret
  exact ⟨rfl, HB.out⟩
theorem set_take {r : List Value} {j : Nat} (h : j < r.length) (v : Value) (vs : List Value) : (r.set j v).take (j + 1) ++ vs ++ (r.set j v).drop (j + 1 + vs.length) = r.take j ++ (v :: vs) ++ r.drop (j + (v :: vs).length) := by
  have e1 : (r.set j v).take (j + 1) = r.take j ++ [v] := by
    rw [List.take_add_one, List.take_set_of_le (Nat.le_refl _), List.getElem?_set_self h]
    rfl
  have e2 : (r.set j v).drop (j + 1 + vs.length) = r.drop (j + (v :: vs).length) := by
    rw [List.drop_set_of_lt (by omega), List.length_cons]
    congr 1
    omega
  rw [e1, e2]
  simp
/-- Cells of a row, stored one behind the other. -/
theorem rows_cells {B : Nat} {e : TypeId} {k gs n cap i : Nat} : ∀ (vs : List Value) (j : Nat) (w : World) (l : List (List Value)) (r : List Value), OwnsR' B w e k (.slice (some ⟨gs, 0, none⟩) n cap) l → l.length = n → l[i]? = some r → j + vs.length ≤ k →
    OwnsR' B (w.setCells gs (i * k + j) vs) e k (.slice (some ⟨gs, 0, none⟩) n cap) (l.set i (r.take j ++ vs ++ r.drop (j + vs.length))) ∧ w.grownBy (w.setCells gs (i * k + j) vs) (some gs)
  | [], j, w, l, r, h, hn, hr, hj => by
    have e : l.set i (r.take j ++ [] ++ r.drop (j + ([] : List Value).length)) = l := by
      rw [List.append_nil, List.length_nil, Nat.add_zero, List.take_append_drop]
      apply List.ext_getElem?
      intro m
      by_cases h9 : i = m
      · subst h9; rw [List.getElem?_set_self (List.getElem?_eq_some_iff.1 hr).1, hr]
      · rw [List.getElem?_set_ne h9]
    rw [e]
    exact ⟨h, grown_same _ _⟩
  | v :: vs, j, w, l, r, h, hn, hr, hj => by
    have hrl : r.length = k := h.1 r (List.mem_of_getElem? hr)
    rw [List.length_cons] at hj
    have s := h.stored hn hr (i := j) (by omega) v
    have hi := (List.getElem?_eq_some_iff.1 hr).1
    have ih := rows_cells vs (j + 1) _ (l.set i (r.set j v)) (r.set j v) s.1 (by rw [List.length_set]; exact hn) (List.getElem?_set_self hi) (by omega)
    rw [List.set_set, set_take (by omega)] at ih
    exact ⟨ih.1, grown_transP s.2 ih.2⟩
/-- The 68 cells of a row, stored: the row is another one. -/
theorem pipes_put {B : Nat} {w : World} {g gs : Nat} {fl : List PipeD} (h : IsPipes B w g gs fl) {i : Nat} {s s' : PipeD} (hu : fl[i]? = some s) (hok : okP s') :
    IsPipes B (w.setCells gs (i * 68) (pipeV s')) g gs (fl.set i s') ∧ w.grownBy (w.setCells gs (i * 68) (pipeV s')) (some gs) ∧ w.there gs (i * 68) 68 := by
  have hs := pipes_lts h hu
  have hk := rows_cells (i := i) (pipeV s') 0 w (pipesV fl) (pipeV s) h.2.1 (pipesV_length fl) (pipesV_get hu) (by rw [pipeV_length hok]; exact Nat.le_refl _)
  have e : (pipesV fl).set i ((pipeV s).take 0 ++ pipeV s' ++ (pipeV s).drop (0 + (pipeV s').length)) = pipesV (fl.set i s') := by
    rw [List.drop_of_length_le (by rw [pipeV_length hs, pipeV_length hok]; exact Nat.le_refl _)]
    unfold pipesV
    rw [List.map_set]
    simp
  rw [e, Nat.add_zero] at hk
  refine ⟨⟨?_, ?_, h.2.2.1, ?_⟩, hk.2, fun j hj => ⟨?_, pipes_free h _⟩⟩
  · rw [List.length_set, ← h.1]
    exact hk.2.block g (pipes_lt h).1 (by rw [Ne, Option.some.injEq]; exact fun e => h.apart e.symm)
  · rw [List.length_set]; exact hk.1
  · rw [List.length_set]
    refine ⟨h.2.2.2.1, h.2.2.2.2.1, fun u hu => ?_⟩
    rcases List.mem_or_eq_of_mem_set hu with hu | rfl
    · exact h.2.2.2.2.2 u hu
    · exact hok
  · have hx := pipes_range h hu j ((pipeV s)[j]'(by rw [pipeV_length hs]; exact hj)) (List.getElem?_eq_getElem _)
    rw [hx]; rfl
set_option maxHeartbeats 1600000 in
theorem pmake_yes {B : Nat} {w : World} {g gs : Nat} {fl : List PipeD} (h : IsPipes B w g gs fl) (i : Nat) (s : PipeD) (hi : firstI (fun s => !thereB s) fl = (i : Int)) (hu : fl[i]? = some s) :
    Calls Try.prog 18 #[.pointer (some ⟨g, 0, none⟩)] w (PipesPost B w g gs (fl.set i newP) (.tuple #[.int .i64 ((i : Int) + 1), .int .i64 0])) := by
  have c0 := pipes_facts h
  have hlen := h.2.2.2.2.1
  have hil := (List.getElem?_eq_some_iff.1 hu).1
  have HIX := Lib.hid (index_pipe fl (some ⟨gs, 0, none⟩) fl.length w (pipes_reads h) (by omega) okP h.2.2.2.2.2 h.2.2.2.2.2 (fun s => !thereB s) 73 #[] enters_make1 (gone_pred w))
  rw [hi] at HIX
  have H := Lib.hid h
  have HPUT := Lib.hid (fun (W : World) (hW : IsPipes B W g gs fl) => pipes_put hW hu okP_newP)
  obtain ⟨L, hL⟩ : ∃ L, fl.length = L := ⟨_, rfl⟩
  rw [hL] at c0 HIX hil hlen
  have HL := Lib.hid hL
  have hx0 : (0 : Int) ≤ (i : Int) := by omega
  have hx1 : (i : Int) < (L : Int) := by omega
  have hx2 : ¬ (i : Int) < 0 := by omega
  have hw1 : IntKind.i64.wrap ((i : Int) + 1) = (i : Int) + 1 := IntWalk.i64_in _ (by omega)
  have eNP : ((Try.zeroCells141.setIfInBounds 66 (.int .i64 1)).setIfInBounds 67 (.int .i64 1)) = (pipeV newP).toArray := by kernel_rfl
  have eL : ((Try.zeroCells141.setIfInBounds 66 (.int .i64 1)).setIfInBounds 67 (.int .i64 1)).toList = pipeV newP := by rw [eNP]
  have hNS : ((Try.zeroCells141.setIfInBounds 66 (.int .i64 1)).setIfInBounds 67 (.int .i64 1)).size = 68 := by rw [← Array.length_toList, eL, pipeV_length okP_newP]
  have hsz : (Try.prog.info? 141).map (·.size) = some ((Try.zeroCells141.setIfInBounds 66 (.int .i64 1)).setIfInBounds 67 (.int .i64 1)).size := by rw [hNS]; exact size_pipe
  have hone : ((Try.zeroCells141.setIfInBounds 66 (.int .i64 1)).setIfInBounds 67 (.int .i64 1)).all (·.oneCell') = true := by rw [eNP, List.all_toArray, List.all_eq_true]; exact pipeV_one newP
  have HNS := Lib.hid hNS
  clear h hu hi hL eNP hNS
  go_enter Try.func18, Try.ntmps18
  go_wp2_with fail
  refine HIX.out.mono ?_
  rintro e w1 ⟨rfl, b1⟩
  have h1 := H.out.below b1
  have c1 := pipes_facts h1
  rw [HL.out] at c1
  have hp := HPUT.out w1 h1
  obtain ⟨W3, hW3⟩ : ∃ x, w1.setCells gs (i * 68) (pipeV newP) = x := ⟨_, rfl⟩
  have hp12 := And.intro hp.1 hp.2.1
  rw [hW3] at hp12
  have HP := Lib.hid hp12
  have ht : w1.there gs (i * 68) ((Try.zeroCells141.setIfInBounds 66 (.int .i64 1)).setIfInBounds 67 (.int .i64 1)).size := by rw [HNS.out]; exact hp.2.2
  have HB := Lib.hid b1
  clear b1 h1 hp hp12 c0
  go_wp2_with (refine wpList_store_mid (by rfl) 141 _ _ (by rfl) gs (i * 68) ((Try.zeroCells141.setIfInBounds 66 (.int .i64 1)).setIfInBounds 67 (.int .i64 1)) (by rfl) (by rfl) ht hsz hone ?_; rw [eL, hW3]; clear ht hsz hone eL hW3; generalize ((Try.zeroCells141.setIfInBounds 66 (.int .i64 1)).setIfInBounds 67 (.int .i64 1)) = NP)
  go_ret2
  exact ⟨rfl, HP.out.1, grown_belowP HB.out HP.out.2⟩
end Go.Proofs.Ythainmbapikjiaa
