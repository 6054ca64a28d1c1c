/- Processes: Exit, by its walk. -/
import Derived.Test.YtebkkbmplndcpaaGidloikej
namespace Go.Proofs.Ytebkkbmplndcpaa
open Go.RowKit Go.Sort
set_option linter.unusedVariables false
set_option linter.unusedSimpArgs false
set_option maxRecDepth 100000

theorem table_put6 {B : Nat} {w : World} {g gs cap : Nat} {T : TabD} (h : IsTable B w g gs cap T) {i : Nat} (hi : i < T.list.length) (u : ProcD) :
    IsTable B ((((((w.setCell ⟨gs, i * 6, none⟩ (.int .i64 u.pid)).setCell ⟨gs, i * 6 + 1, none⟩ (.int .i64 u.parent)).setCell ⟨gs, i * 6 + 2, none⟩ (.int .i64 u.state)).setCell ⟨gs, i * 6 + 3, none⟩ (.int .i64 u.code)).setCell ⟨gs, i * 6 + 4, none⟩ (.int .i64 u.til)).setCell ⟨gs, i * 6 + 5, none⟩ (.bool u.killed)) g gs cap { T with list := T.list.set i u } ∧ w.grownBy ((((((w.setCell ⟨gs, i * 6, none⟩ (.int .i64 u.pid)).setCell ⟨gs, i * 6 + 1, none⟩ (.int .i64 u.parent)).setCell ⟨gs, i * 6 + 2, none⟩ (.int .i64 u.state)).setCell ⟨gs, i * 6 + 3, none⟩ (.int .i64 u.code)).setCell ⟨gs, i * 6 + 4, none⟩ (.int .i64 u.til)).setCell ⟨gs, i * 6 + 5, none⟩ (.bool u.killed)) (some gs) := by
  have hp := rows_put6 h.2.1 rfl hi u
  obtain ⟨o1, o2, o3, o4, o5⟩ := h.2.2.2
  refine ⟨⟨?_, ?_, h.2.2.1, o1, o2, by rw [List.length_set]; exact o3, by rw [List.length_set]; exact o4, o5⟩, hp.2⟩
  · show _ = some (Obj.cells #[.int .i64 T.most, .int .i64 T.last, .int .i64 T.now, .slice (some ⟨gs, 0, none⟩) (T.list.set i u).length cap] 77 (0, 0))
    rw [List.length_set, ← h.1]
    exact hp.2.block g (table_lt h).1 (by rw [Ne, Option.some.injEq]; exact fun e => h.apart e.symm)
  · show OwnsR' B _ _ 6 (.slice (some ⟨gs, 0, none⟩) (T.list.set i u).length cap) (procsV (T.list.set i u))
    rw [List.length_set]
    exact hp.1
def exitL (l : List ProcD) (n : Int) (i : Nat) (s : ProcD) (c : Int) : List ProcD := ((l.set i ⟨n, s.parent, 3, c, 0, false⟩).map (orphP n)).filter (fun x => !zomB x)
theorem exitL_len (l : List ProcD) (n : Int) (i : Nat) (s : ProcD) (c : Int) : (exitL l n i s c).length ≤ l.length := by
  unfold exitL
  exact Nat.le_trans (List.length_filter_le _ _) (by rw [List.length_map, List.length_set]; exact Nat.le_refl _)
set_option maxHeartbeats 1600000 in
theorem texit_yes {B : Nat} {w : World} {g gs cap : Nat} {T : TabD} (h : IsTable B w g gs cap T) {n : Int} {i : Nat} {s : ProcD} (hf : Found T n i s) (hs : s.state ≠ 3) (hn : n ≠ 1) (code : Int) (h1 : 1 ≤ (exitL T.list n i s (bits .and .i64 code 255)).length) :
    Calls Try.prog 14 #[.pointer (some ⟨g, 0, none⟩), .int .i64 n, .int .i64 code] w (TPost B w g gs { T with list := exitL T.list n i s (bits .and .i64 code 255) } (.int .i64 0)) := by
  have hi := (List.getElem?_eq_some_iff.1 hf.2).1
  have hel := exitL_len T.list n i s (bits .and .i64 code 255)
  have h16 := h.2.2.2.2.2.2.1
  have HF := Lib.hid (tmortal_yes h hf hs hn)
  obtain ⟨cb, hcb⟩ : ∃ x, bits .and .i64 code 255 = x := ⟨_, rfl⟩
  rw [hcb] at h1 hel ⊢
  have HRW := Lib.hid (fun (W : World) (hW : Below w.heap.size w W) => And.intro (table_row (h.below hW) hf.2) (fun q => table_free (h.below hW) q))
  have HPT := Lib.hid (fun (W : World) (hW : Below w.heap.size w W) => table_put6 (h.below hW) hi ⟨n, s.parent, 3, cb, 0, false⟩)
  have H := Lib.hid h
  have HEL : Hid (1 ≤ (exitL T.list n i s cb).length ∧ (exitL T.list n i s cb).length ≤ 16) := Lib.hid ⟨h1, by omega⟩
  obtain ⟨pa, hpa⟩ : ∃ x, s.parent = x := ⟨_, rfl⟩
  obtain ⟨s0, s1, s2, s3, s4, s5⟩ := s
  dsimp only at hpa
  subst hpa
  have HX : Hid (exitL T.list n i ⟨s0, s1, s2, s3, s4, s5⟩ cb = ((T.list.set i ⟨n, s1, 3, cb, 0, false⟩).map (orphP n)).filter (fun x => !zomB x)) := Lib.hid rfl
  clear h hf hs hn hi hel h16 h1
  dsimp only at HRW HPT
  go_enter Try.func14, Try.ntmps14
  go_wp2_with fail
  refine HF.out.mono ?_
  rintro e w1 ⟨rfl, b1⟩
  obtain ⟨⟨r0, r1, r2, r3, r4, r5⟩, fr⟩ := HRW.out w1 b1
  have hpt := HPT.out w1 b1
  have HB := Lib.hid b1
  obtain ⟨w2, hw2⟩ : ∃ x, ((((((w1.setCell ⟨gs, i * 6, none⟩ (.int .i64 n)).setCell ⟨gs, i * 6 + 1, none⟩ (.int .i64 s1)).setCell ⟨gs, i * 6 + 2, none⟩ (.int .i64 3)).setCell ⟨gs, i * 6 + 3, none⟩ (.int .i64 cb)).setCell ⟨gs, i * 6 + 4, none⟩ (.int .i64 0)).setCell ⟨gs, i * 6 + 5, none⟩ (.bool false)) = x := ⟨_, rfl⟩
  rw [hw2] at hpt
  have H2 := Lib.hid hpt.1
  have HG2 := Lib.hid hpt.2
  clear b1 hpt
  go_wp2_with fail
  try rw [hcb]
  try rw [hw2]
  refine (torphan_is H2.out n).mono ?_
  rintro e w3 ⟨rfl, h3, g3⟩
  dsimp only at h3
  have H3 := Lib.hid h3
  have HG3 := Lib.hid (grown_transT HG2.out g3)
  have c3 := (table_facts h3).2.2.2
  dsimp only at c3
  obtain ⟨L, hL⟩ : ∃ x, ((T.list.set i ⟨n, s1, 3, cb, 0, false⟩).map (orphP n)).length = x := ⟨_, rfl⟩
  rw [hL] at c3
  have ho3 := h3.2.1
  dsimp only at ho3
  rw [hL] at ho3
  have hL1 : 1 ≤ L ∧ L ≤ 16 := by have := h3.2.2.2; rw [← hL]; exact ⟨this.2.2.1, this.2.2.2.1⟩
  have HDF := Lib.hid (tdelf_is ho3 hL hL1.2 hL1.1 zomB 52 #[] enters_exit1 zom_is)
  clear r0 r1 r2 r3 r4 r5 fr hw2 h3 g3 ho3 hL1 hL hcb
  go_wp2_with fail
  refine HDF.out.mono ?_
  rintro e w4 ⟨n', hn', rfl, ho4, hg4⟩
  rw [← HX.out] at hn' ho4
  obtain ⟨n5, HT5, HK5⟩ := table_list H3.out hg4 ho4 hn' (by rw [← hn']; exact HEL.out.1) (by rw [← hn']; exact HEL.out.2)
  have z3 := cell_atT n5 3
  have f3 := frozen_atT n5 3
  obtain ⟨w5, hw5⟩ : ∃ x, w4.setCell ⟨g, 3, none⟩ (.slice (some ⟨gs, 0, none⟩) n' cap) = x := ⟨_, rfl⟩
  rw [hw5] at HT5 HK5
  have HFIN := Lib.hid (And.intro HT5 (((TKeeps.of_below (g := g) (gs := gs) HB.out).trans (.of_gs HG3.out)).trans HK5))
  clear HT5 HK5 n5 ho4 hg4 hn' c3
  go_wp2
  try rw [hw5]
  go_ret
  exact ⟨gs, cap, rfl, HFIN.out.1, HFIN.out.2⟩
set_option maxHeartbeats 1600000 in
theorem texit_one {B : Nat} {w : World} {g gs cap : Nat} {T : TabD} (h : IsTable B w g gs cap T) {i : Nat} {s : ProcD} (hf : Found T 1 i s) (hs : s.state ≠ 3) (code : Int) :
    Calls Try.prog 14 #[.pointer (some ⟨g, 0, none⟩), .int .i64 1, .int .i64 code] w (TPost B w g gs T (.int .i64 1)) := by
  have HF := Lib.hid (tmortal_one h hf hs)
  have H := Lib.hid h
  clear h hf hs
  go_enter Try.func14, Try.ntmps14
  go_wp2_with fail
  refine HF.out.mono ?_
  rintro e w1 ⟨rfl, b1⟩
  have HB := Lib.hid b1
  clear b1
  go_wp2
  go_ret
  exact TPost.same H.out HB.out _
set_option maxHeartbeats 1600000 in
theorem texit_no {B : Nat} {w : World} {g gs cap : Nat} {T : TabD} (h : IsTable B w g gs cap T) {n : Int} (hg : Gone T n) (code : Int) :
    Calls Try.prog 14 #[.pointer (some ⟨g, 0, none⟩), .int .i64 n, .int .i64 code] w (TPost B w g gs T (.int .i64 18)) := by
  have HF := Lib.hid (tmortal_no h hg)
  have H := Lib.hid h
  clear h hg
  go_enter Try.func14, Try.ntmps14
  go_wp2_with fail
  refine HF.out.mono ?_
  rintro e w1 ⟨rfl, b1⟩
  have HB := Lib.hid b1
  clear b1
  go_wp2
  go_ret
  exact TPost.same H.out HB.out _
end Go.Proofs.Ytebkkbmplndcpaa
