/- Processes: Get, those, Pids, Children, by their walks. -/
import Derived.Test.YthainmbapikjiaaProc2
namespace Go.Proofs.Ythainmbapikjiaa
open Go.RowKit Go.Sort
set_option linter.unusedVariables false
set_option linter.unusedSimpArgs false
set_option maxRecDepth 100000

set_option maxHeartbeats 1600000 in
theorem tget_yes {B : Nat} {w : World} {g gs cap : Nat} {T : TabD} (h : IsTable B w g gs cap T) {n : Int} {i : Nat} {s : ProcD} (hf : Found T n i s) :
    Calls Try.prog 31 #[.pointer (some ⟨g, 0, none⟩), .int .i64 n] w fun e w' => e = .returned (.tuple #[procA s, .int .i64 0]) ∧ Below w.heap.size w w' := by
  have b0 := below_box w (.cells #[.int .i64 0, .int .i64 0, .int .i64 0, .int .i64 0, .int .i64 0, .bool false] 75)
  have H0 := Lib.hid (h.below b0)
  have HB0 := Lib.hid b0
  have HF := Lib.hid (tfind_yes H0.out n i s hf.1 hf.2)
  have HU := Lib.hid hf.2
  obtain ⟨x0, x1, x2, x3, x4, x5⟩ := s
  clear h b0 hf
  go_enter Try.func31, Try.ntmps31
  go_wp2_with fail
  refine HF.out.mono ?_
  rintro e w1 ⟨rfl, b1⟩
  have n1 := (b1.block w.heap.size (by simp)).trans (heap_alloc_new w _)
  obtain ⟨r0, r1, r2, r3, r4, r5⟩ := table_row (H0.out.below b1) HU.out
  have y0 := cell_atT n1 0
  have y1 := cell_atT n1 1
  have y2 := cell_atT n1 2
  have y3 := cell_atT n1 3
  have y4 := cell_atT n1 4
  have y5 := cell_atT n1 5
  have ff := fun i => frozen_atT n1 i
  have G := Lib.hid (six_setT (.int .i64 x0) (.int .i64 x1) (.int .i64 x2) (.int .i64 x3) (.int .i64 x4) (.bool x5) n1)
  have HB := Lib.hid (below_next HB0.out b1)
  clear b1 n1
  go_wp2
  refine bodyPost_ret (results_proc_tmp rfl _ _ w.heap.size (cs := procV ⟨x0, x1, x2, x3, x4, x5⟩) rfl rfl G.out.1) rfl ?_
  exact ⟨rfl, HB.out.grown G.out.2 HB.out.size (fun i hi => by obtain rfl := Option.some.inj hi; exact Nat.le_refl _)⟩
set_option maxHeartbeats 1600000 in
theorem tget_no {B : Nat} {w : World} {g gs cap : Nat} {T : TabD} (h : IsTable B w g gs cap T) {n : Int} (hf : findI T.list n = -1) :
    Calls Try.prog 31 #[.pointer (some ⟨g, 0, none⟩), .int .i64 n] w fun e w' => e = .returned (.tuple #[procA zeroT, .int .i64 18]) ∧ Below w.heap.size w w' := by
  have b0 := below_box w (.cells #[.int .i64 0, .int .i64 0, .int .i64 0, .int .i64 0, .int .i64 0, .bool false] 75)
  have HB0 := Lib.hid b0
  have HF := Lib.hid (tfind_no (h.below b0) n hf)
  clear h b0 hf
  go_enter Try.func31, Try.ntmps31
  go_wp2_with fail
  refine HF.out.mono ?_
  rintro e w1 ⟨rfl, b1⟩
  have n1 := (b1.block w.heap.size (by simp)).trans (heap_alloc_new w _)
  have y0 := cell_atT n1 0
  have y1 := cell_atT n1 1
  have y2 := cell_atT n1 2
  have y3 := cell_atT n1 3
  have y4 := cell_atT n1 4
  have y5 := cell_atT n1 5
  have ff := fun i => frozen_atT n1 i
  have G := Lib.hid (six_setT (.int .i64 0) (.int .i64 0) (.int .i64 0) (.int .i64 0) (.int .i64 0) (.bool false) n1)
  have HB := Lib.hid (below_next HB0.out b1)
  clear b1 n1
  go_wp2
  refine bodyPost_ret (results_proc_tmp rfl _ _ w.heap.size (cs := procV zeroT) rfl rfl G.out.1) rfl ?_
  exact ⟨rfl, HB.out.grown G.out.2 HB.out.size (fun i hi => by obtain rfl := Option.some.inj hi; exact Nat.le_refl _)⟩
/-- The Pids of those that are so. -/
def intsV (l : List Int) : List Value := l.map fun i => .int .i64 i
theorem intsV_append (l m : List Int) : intsV (l ++ m) = intsV l ++ intsV m := by unfold intsV; rw [List.map_append]
theorem intsV_length (l : List Int) : (intsV l).length = l.length := by unfold intsV; rw [List.length_map]
def thoseL (p : ProcD → Bool) (l : List ProcD) : List Int := (l.filter p).map (·.pid)
theorem thoseL_yes {p : ProcD → Bool} {l : List ProcD} {k : Nat} {u : ProcD} (h : l[k]? = some u) (hp : p u = true) : thoseL p (l.take (k + 1)) = thoseL p (l.take k) ++ [u.pid] := by
  unfold thoseL
  rw [List.take_add_one, h, List.filter_append, List.map_append]
  simp [hp]
theorem thoseL_no {p : ProcD → Bool} {l : List ProcD} {k : Nat} {u : ProcD} (h : l[k]? = some u) (hp : p u = false) : thoseL p (l.take (k + 1)) = thoseL p (l.take k) := by
  unfold thoseL
  rw [List.take_add_one, h, List.filter_append, List.map_append]
  simp [hp]
theorem thoseL_length (p : ProcD → Bool) (l : List ProcD) (k : Nat) : (thoseL p (l.take k)).length ≤ l.length := by
  unfold thoseL
  rw [List.length_map]
  exact Nat.le_trans (List.length_filter_le _ _) (by rw [List.length_take]; omega)
def ThosePost (w : World) (p : ProcD → Bool) (l : List ProcD) (e : Ending) (w' : World) : Prop := ∃ v, e = .returned v ∧ OwnsV w.heap.size w' 3 v (intsV (thoseL p l)) ∧ Below w.heap.size w w'
set_option maxHeartbeats 1600000 in
theorem those_is {B : Nat} {w : World} {gt gs cap : Nat} {T : TabD} (h : IsTable B w gt gs cap T) (p : ProcD → Bool) (g : Nat) (lb : Array Value) (eg : ∀ args w, (callFunc g args).run Try.prog w = .ok (.enter g args) w) (hp : PredV g lb (fun u => .agg (procV u).toArray) (fun _ => True) p w) :
    Calls Try.prog 90 #[.pointer (some ⟨gt, 0, none⟩), .func (.func g) #[] lb] w (ThosePost w p T.list) := by
  obtain ⟨_, _, _, c3⟩ := table_facts h
  have HR := Lib.hid (table_reads h)
  have hn := h.2.2.2.2.2.2.1
  obtain ⟨l, hl⟩ : ∃ l, T.list = l := ⟨_, rfl⟩
  rw [hl] at HR c3 hn ⊢
  obtain ⟨a, ha⟩ : ∃ a, (some (⟨gs, 0, none⟩ : Addr)) = a := ⟨_, rfl⟩
  rw [ha] at HR c3
  clear ha
  have HP := Lib.hid hp
  clear h hp hl
  obtain ⟨n, hnn⟩ : ∃ n, l.length = n := ⟨_, rfl⟩
  have HE : Hid (ThosePost w p l = fun e w' => ∃ v, e = .returned v ∧ OwnsV w.heap.size w' 3 v (intsV (thoseL p (l.take n))) ∧ Below w.heap.size w w') := by show _ = _; rw [← hnn, List.take_length]; rfl
  rw [hnn] at hn c3
  have HN := Lib.hid hnn
  clear hnn
  go_enter Try.func90, Try.ntmps90
  go_wp2
  go_loopw [5, 13] (fun v i wr => ∃ k : Nat, k ≤ n ∧ i = .int .i64 k ∧ Hid (OwnsV w.heap.size wr 3 v (intsV (thoseL p (l.take k)))) ∧ Hid (Below w.heap.size w wr)) (fun _ i _ => n - (intOf i).toNat)
  case atStart => exact ⟨0, Nat.zero_le _, rfl, OwnsV.nil _ _ _, Below.refl _ _⟩
  case round =>
    obtain ⟨k, hk, rfl, HO, HB⟩ := hrel
    by_cases hlt : k < n
    · obtain ⟨u, hrow⟩ : ∃ r, l[k]? = some r := ⟨_, List.getElem?_eq_getElem (by rw [HN.out]; exact hlt)⟩
      have HROW := Lib.hid hrow
      obtain ⟨b, off, rfl, hb, hc⟩ := (HR.out.below HB.out).row (procsV_get hrow)
      have c0 : wr.cell? ⟨b, off + k * 6, none⟩ = some (.int .i64 u.pid) := hc 0 _ rfl
      have c1 : wr.cell? ⟨b, off + k * 6 + 1, none⟩ = some (.int .i64 u.parent) := by have := hc 1 _ rfl; rwa [← Nat.add_assoc] at this
      have c2 : wr.cell? ⟨b, off + k * 6 + 2, none⟩ = some (.int .i64 u.state) := by have := hc 2 _ rfl; rwa [← Nat.add_assoc] at this
      have c3 : wr.cell? ⟨b, off + k * 6 + 3, none⟩ = some (.int .i64 u.code) := by have := hc 3 _ rfl; rwa [← Nat.add_assoc] at this
      have c4 : wr.cell? ⟨b, off + k * 6 + 4, none⟩ = some (.int .i64 u.til) := by have := hc 4 _ rfl; rwa [← Nat.add_assoc] at this
      have c5 : wr.cell? ⟨b, off + k * 6 + 5, none⟩ = some (.bool u.killed) := by have := hc 5 _ rfl; rwa [← Nat.add_assoc] at this
      have kb := below_box wr (.cells #[.int .i64 u.pid, .int .i64 u.parent, .int .i64 u.state, .int .i64 u.code, .int .i64 u.til, .bool u.killed] 75)
      have nb := heap_alloc_new wr (.cells #[.int .i64 u.pid, .int .i64 u.parent, .int .i64 u.state, .int .i64 u.code, .int .i64 u.til, .bool u.killed] 75)
      have HNB := Lib.hid nb
      clear hc hrow hb kb nb
      have hcall := fun W hW => HP.out W u trivial hW
      have hsz := HB.out.size
      obtain ⟨B, hB⟩ : ∃ B, w.heap.size = B := ⟨_, rfl⟩
      rw [hB] at hsz
      have hw1 : B ≤ wr.heap.size + 1 := by omega
      have hlen := thoseL_length p l k
      have hnl := HN.out
      have HLen : Hid ((intsV (thoseL p (l.take k))).length ≤ 100000) := by show _ ≤ _; rw [intsV_length]; omega
      clear hlen hB
      cases hpu : p u with
      | true =>
        simp only [hpu] at hcall
        have HNext : Hid (intsV (thoseL p (l.take (k + 1))) = intsV (thoseL p (l.take k)) ++ [.int .i64 u.pid]) := by show _ = _; rw [thoseL_yes HROW.out hpu, intsV_append]; rfl
        clear hpu
        go_wp2_with (first | (go_at_fn g; refine (hcall _ (below_next HB.out (below_box _ _))).mono ?_; rintro e w1 ⟨rfl, b1⟩; have y0 := cell_atT ((b1.block wr.heap.size (by simp)).trans HNB.out) 0) | (at_builtin; refine wpList_append_vals rfl _ _ 72 rfl w.heap.size 3 (.int .i64 0) 8 Try.underlying72 info_int rfl _ _ rfl (((HO.out.alloc _).below b1).alloc _) _ _ _ rfl _ (ReadsV.lit w1 #[.int .i64 u.pid] 3) (by intro y hy; simp at hy; subst hy; rfl) (by have := HLen.out; simp; omega) (by have := HLen.out; unfold maxLen; simp; omega) (by have h1 := b1.size; have h2 := HB.out.size; simp at h1 ⊢; omega) ?_; intro v' w2 ho hg))
        go_roundw
        case rel =>
          refine ⟨k + 1, by omega, by go_num, ?_, ?_⟩
          · show OwnsV _ _ _ _ _
            rw [HNext.out]
            exact ho
          · refine (((HO.out.alloc _).below b1).alloc _).grown ?_ ?_ hg
            · exact (below_next (below_next HB.out (below_box _ _)) b1).alloc (by have h1 := b1.size; have h2 := HB.out.size; simp at h1; omega) _
            · have h1 := b1.size; have h2 := HB.out.size; simp at h1 ⊢; omega
        case measure => simp [intOf]; omega
      | false =>
        simp only [hpu] at hcall
        have HNext : Hid (thoseL p (l.take (k + 1)) = thoseL p (l.take k)) := thoseL_no HROW.out hpu
        clear hpu
        go_wp2_with (go_at_fn g; refine (hcall _ (below_next HB.out (below_box _ _))).mono ?_; rintro e w1 ⟨rfl, b1⟩)
        go_roundw
        case rel =>
          refine ⟨k + 1, by omega, by go_num, ?_, ?_⟩
          · show OwnsV _ _ _ _ _
            rw [HNext.out]
            exact (HO.out.alloc _).below b1
          · exact below_next (below_next HB.out (below_box _ _)) b1
        case measure => simp [intOf]; omega
    · have hkn : k = n := by omega
      subst hkn
      go_wp2
      go_ret
      rw [HE.out]
      exact ⟨_, rfl, HO.out, HB.out⟩
theorem enters_pids1 (args : Array Value) (w : World) : (callFunc 91 args).run Try.prog w = .ok (.enter 91 args) w := enters_of Try.func91 (by kernel_rfl) rfl args w
theorem enters_children1 (args : Array Value) (w : World) : (callFunc 97 args).run Try.prog w = .ok (.enter 97 args) w := enters_of Try.func97 (by kernel_rfl) rfl args w
theorem all_pred (w : World) : PredV 91 #[] (fun s => .agg (procV s).toArray) (fun _ => True) (fun _ => true) w := by
  intro W s _ hB
  clear hB
  show Calls Try.prog 91 #[.agg #[.int .i64 s.pid, .int .i64 s.parent, .int .i64 s.state, .int .i64 s.code, .int .i64 s.til, .bool s.killed]] W _
  go_enter Try.func91, Try.ntmps91
  go_wp2
  go_ret
  exact ⟨rfl, below_box _ _⟩
def parentB (n : Int) (u : ProcD) : Bool := decide (u.parent = n)
set_option maxHeartbeats 1600000 in
theorem parent_pred {w : World} {bp : Nat} {n : Int} (hb : bp < w.heap.size) (h : w.cell? ⟨bp, 0, none⟩ = some (.int .i64 n)) : PredV 97 #[.pointer (some ⟨bp, 0, none⟩)] (fun s => .agg (procV s).toArray) (fun _ => True) (parentB n) w := by
  intro W s _ hB
  have hc := (hB.cell (p := ⟨bp, 0, none⟩) hb).trans h
  have hbW : bp < W.heap.size := Nat.lt_of_lt_of_le hb hB.size
  have b0 := below_box W (.cells #[.int .i64 s.pid, .int .i64 s.parent, .int .i64 s.state, .int .i64 s.code, .int .i64 s.til, .bool s.killed] 75)
  have hc2 := (b0.cell (p := ⟨bp, 0, none⟩) hbW).trans hc
  clear hB h hb hc
  show Calls Try.prog 97 #[.agg #[.int .i64 s.pid, .int .i64 s.parent, .int .i64 s.state, .int .i64 s.code, .int .i64 s.til, .bool s.killed], .pointer (some ⟨bp, 0, none⟩)] W fun e w' => e = .returned (.bool (decide (s.parent = n))) ∧ Below W.heap.size W w'
  go_enter Try.func97, Try.ntmps97
  go_wp2
  go_ret
  refine ⟨?_, b0⟩
  show Ending.returned (.bool (s.parent == n)) = _
  rw [beq_dec]
def pidsL (l : List ProcD) : List Int := l.map (·.pid)
set_option maxHeartbeats 1600000 in
theorem tpids_is {B : Nat} {w : World} {g gs cap : Nat} {T : TabD} (h : IsTable B w g gs cap T) :
    Calls Try.prog 30 #[.pointer (some ⟨g, 0, none⟩)] w fun e w' => ∃ v, e = .returned v ∧ OwnsV w.heap.size w' 3 v (intsV (pidsL T.list)) ∧ Below w.heap.size w w' := by
  have HT := Lib.hid (those_is h (fun _ => true) 91 #[] enters_pids1 (all_pred w))
  have e : thoseL (fun _ => true) T.list = pidsL T.list := by unfold thoseL pidsL; rw [List.filter_eq_self.2 (fun _ _ => rfl)]
  unfold ThosePost at HT
  rw [e] at HT
  clear h e
  go_enter Try.func30, Try.ntmps30
  go_wp2_with fail
  refine HT.out.mono ?_
  rintro e w1 ⟨v, rfl, ho, b1⟩
  have HO := Lib.hid (And.intro ho b1)
  clear ho b1
  go_wp2
  go_ret
  exact ⟨_, rfl, HO.out.1, HO.out.2⟩
set_option maxHeartbeats 1600000 in
theorem tchildren_is {B : Nat} {w : World} {g gs cap : Nat} {T : TabD} (h : IsTable B w g gs cap T) (n : Int) :
    Calls Try.prog 35 #[.pointer (some ⟨g, 0, none⟩), .int .i64 n] w fun e w' => ∃ v, e = .returned v ∧ OwnsV w.heap.size w' 3 v (intsV (thoseL (parentB n) T.list)) ∧ Below w.heap.size w w' := by
  have b0 := below_box w (.cells #[.int .i64 n] 3)
  have n0 := heap_alloc_new w (.cells #[.int .i64 n] 3)
  have HT := Lib.hid (those_is (h.below b0) (parentB n) 97 #[.pointer (some ⟨w.heap.size, 0, none⟩)] enters_children1 (parent_pred (by simp) (cell_atT n0 0)))
  unfold ThosePost at HT
  have HB0 := Lib.hid b0
  clear h b0 n0
  go_enter Try.func35, Try.ntmps35
  go_wp2_with fail
  refine HT.out.mono ?_
  rintro e w1 ⟨v, rfl, ho, b1⟩
  have HO := Lib.hid (And.intro (ho.less HB0.out.size) (below_next HB0.out b1))
  clear ho b1
  go_wp2
  go_ret
  exact ⟨_, rfl, HO.out.1, HO.out.2⟩
end Go.Proofs.Ythainmbapikjiaa
