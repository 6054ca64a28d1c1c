/- Processes: Fork, by its walk. -/
import Derived.Test.YthainmbapikjiaaProc4
import Derived.Deep.RegionHeld
import Derived.Deep.RegionHeld3
import Derived.OrdersHeld
namespace Go.Proofs.Ythainmbapikjiaa
open Go.RowKit Go.Sort
set_option linter.unusedVariables false
set_option linter.unusedSimpArgs false
set_option maxRecDepth 100000

theorem info_proc : (Try.prog.info? 75).map (fun i => (i.zero, i.size, i.bytes)) = some (some (.agg #[.int .i64 0, .int .i64 0, .int .i64 0, .int .i64 0, .int .i64 0, .bool false]), 6, 48) := by kernel_rfl
theorem own_formT {B : Nat} {w : World} {e : TypeId} {k : Nat} {v : Value} {l : List (List Value)} (h : OwnsR' B w e k v l) (hl : 1 ≤ l.length) : ∃ g c, v = .slice (some ⟨g, 0, none⟩) l.length c := by
  obtain ⟨h0, h1, ⟨_, hn⟩ | ⟨g, cap, cur, hv, hB, hg, hc, hm, hs, ht⟩⟩ := h
  · omega
  · exact ⟨g, cap, hv⟩
set_option maxHeartbeats 1600000 in
theorem tfork_no {B : Nat} {w : World} {g gs cap : Nat} {T : TabD} (h : IsTable B w g gs cap T) {n : Int} (hg : Gone T n) :
    Calls Try.prog 28 #[.pointer (some ⟨g, 0, none⟩), .int .i64 n] w (TPost B w g gs T (.tuple #[.int .i64 0, .int .i64 18])) := by
  have HF := Lib.hid (tLive_no h hg)
  have H := Lib.hid h
  clear h hg
  go_enter Try.func28, Try.ntmps28
  go_wp2_with fail
  refine HF.out.mono ?_
  rintro e w1 ⟨rfl, b1⟩
  have HB := Lib.hid b1
  clear b1
  go_wp2
  go_ret2
  exact TPost.same H.out HB.out _
set_option maxHeartbeats 1600000 in
theorem tfork_full {B : Nat} {w : World} {g gs cap : Nat} {T : TabD} (h : IsTable B w g gs cap T) {n : Int} {i : Nat} {s : ProcD} (hf : Found T n i s) (hs : s.state ≠ 3) (hfull : T.most ≤ (T.list.length : Int)) :
    Calls Try.prog 28 #[.pointer (some ⟨g, 0, none⟩), .int .i64 n] w (TPost B w g gs T (.tuple #[.int .i64 0, .int .i64 15])) := by
  have HF := Lib.hid (tLive_yes h hf hs)
  have HR := Lib.hid (fun (W : World) (hW : Below w.heap.size w W) => table_facts (h.below hW))
  have H := Lib.hid h
  obtain ⟨L, hL⟩ : ∃ x, T.list.length = x := ⟨_, rfl⟩
  obtain ⟨M, hM⟩ : ∃ x, T.most = x := ⟨_, rfl⟩
  rw [hL, hM] at HR hfull
  clear h hf hs hL hM
  go_enter Try.func28, Try.ntmps28
  go_wp2_with fail
  refine HF.out.mono ?_
  rintro e w1 ⟨rfl, b1⟩
  obtain ⟨c0, c1, c2, c3⟩ := HR.out w1 b1
  have HB := Lib.hid b1
  clear b1 c1 c2
  go_wp2
  go_quiet (fail)
  go_wp2
  go_ret2
  exact TPost.same H.out (below_next HB.out (below_drewN _ _)) _
set_option maxHeartbeats 1600000 in
theorem tfork_yes {B : Nat} {w : World} {g gs cap : Nat} {T : TabD} (h : IsTable B w g gs cap T) {n : Int} {i : Nat} {s : ProcD} (hf : Found T n i s) (hs : s.state ≠ 3) (hroom : (T.list.length : Int) < T.most) (hlast : T.last < 1000000) :
    Calls Try.prog 28 #[.pointer (some ⟨g, 0, none⟩), .int .i64 n] w (TPost B w g gs { T with last := T.last + 1, list := T.list ++ [⟨T.last + 1, n, 1, 0, 0, false⟩] } (.tuple #[.int .i64 (T.last + 1), .int .i64 0])) := by
  have HF := Lib.hid (tLive_yes h hf hs)
  have hB := (table_lt h).2.2
  obtain ⟨o1, o2, o3, o4, o5, o6, o7⟩ := h.2.2.2
  have HOK : Hid (TabOk { T with last := T.last + 1, list := T.list ++ [⟨T.last + 1, n, 1, 0, 0, false⟩] }) := Lib.hid ⟨o1, o2, by show 1 ≤ (T.list ++ _).length; rw [List.length_append]; simp, by show (T.list ++ _).length ≤ 16; rw [List.length_append]; simp; omega, o5, o6, by show 0 ≤ T.last + 1; omega⟩
  have HLEN : Hid (1 ≤ T.list.length ∧ T.list.length ≤ 16) := Lib.hid ⟨o3, o4⟩
  obtain ⟨la0, hla0⟩ : ∃ x, T.last = x := ⟨_, rfl⟩
  obtain ⟨la, hla⟩ : ∃ x, la0 + 1 = x := ⟨_, rfl⟩
  have HLA := Lib.hid (And.intro hla0 hla)
  have HTT : Hid ({ T with last := T.last + 1, list := T.list ++ [⟨T.last + 1, n, 1, 0, 0, false⟩] } = ({ T with last := la, list := T.list ++ [⟨la, n, 1, 0, 0, false⟩] } : TabD)) := Lib.hid (by rw [hla0, hla])
  rw [HTT.out] at HOK ⊢
  rw [hla0, hla]
  have hw1 : IntKind.i64.wrap (la0 + 1) = la := by rw [IntWalk.i64_in _ (by omega)]; exact hla
  have HR := Lib.hid (fun (W : World) (hW : Below w.heap.size w W) => table_facts (h.below hW))
  rw [hla0] at HR
  have H := Lib.hid h
  have HBG := Lib.hid (And.intro h.2.2.1 (And.intro hB h.apart))
  obtain ⟨L, hL⟩ : ∃ x, T.list.length = x := ⟨_, rfl⟩
  obtain ⟨M, hM⟩ : ∃ x, T.most = x := ⟨_, rfl⟩
  rw [hL, hM] at HR hroom
  have hroom' : ¬ M ≤ (L : Int) := by omega
  have HLL := Lib.hid (And.intro hL hM)
  clear h hf hs hL hM hla hla0 o1 o2 o3 o4 o5 o6 o7 hlast hB hroom
  go_enter Try.func28, Try.ntmps28
  go_wp2_with fail
  refine HF.out.mono ?_
  rintro e w1 ⟨rfl, b1⟩
  obtain ⟨c0, c1, c2, c3⟩ := HR.out w1 b1
  have HB := Lib.hid b1
  clear b1 c1 c2
  go_wp2
  go_quiet (fail)
  have HB2 := Lib.hid (below_next HB.out (below_drewN w1 nq))
  clear c0 c3 HB
  generalize w1.drewN nq = w2 at *
  obtain ⟨c0, c1, c2, c3⟩ := HR.out w2 HB2.out
  have hn2 := (H.out.below HB2.out).1
  have f1 := frozen_atT hn2 1
  have n3 := heap_setCell_same w2 g 1 _ _ (.int .i64 la) hn2
  have g3 := grown_setCellT w2 ⟨g, 1, none⟩ (.int .i64 la)
  have o3 := (H.out.below HB2.out).2.1.kept g3 (.inr (by intro e; exact HBG.out.2.2 (Option.some.inj e)))
  obtain ⟨w3, hw3⟩ : ∃ x, w2.setCell ⟨g, 1, none⟩ (.int .i64 la) = x := ⟨_, rfl⟩
  rw [hw3] at n3 g3 o3
  have n3' : w3.heap[g]? = some (.cells #[.int .i64 T.most, .int .i64 la, .int .i64 T.now, .slice (some ⟨gs, 0, none⟩) T.list.length cap] 152 (0, 0)) := n3
  have HN3 := Lib.hid n3'
  have HO3 := Lib.hid o3
  have HG3 := Lib.hid g3
  have hgl : g < w2.heap.size := (Array.getElem?_eq_some_iff.1 hn2).1
  have HSZ := Lib.hid (And.intro hgl (Nat.le_trans HBG.out.2.1 (Nat.le_of_lt (table_lt (H.out.below HB2.out)).2.1)))
  clear n3 n3' g3 o3 hn2 hgl
  go_upto_region 7 with fail
  clear c0 c1 c2 c3 f1
  try rw [hw3]
  clear hw3
  have x1 : w3.drew.cell? ⟨g, 1, none⟩ = some (.int .i64 la) := cell_atT (w := w3) HN3.out 1
  refine wp_region_held_drew (S := fun W => W.cell? ⟨g, 1, none⟩ = some (.int .i64 la)) (by kernel_rfl) x1 (fun hHeld => ?_)
  obtain ⟨w4, hw4⟩ : ∃ x, w3.drew = x := ⟨_, rfl⟩
  have n4 : w4.heap[g]? = some (.cells #[.int .i64 T.most, .int .i64 la, .int .i64 T.now, .slice (some ⟨gs, 0, none⟩) T.list.length cap] 152 (0, 0)) := by rw [← hw4]; exact HN3.out
  have o4 : OwnsR' B w4 75 6 (.slice (some ⟨gs, 0, none⟩) T.list.length cap) (procsV T.list) := by rw [← hw4]; exact HO3.out.below (below_drew w3)
  have b4 : w2.grownBy w4 (some g) := by rw [← hw4]; exact grown_to_drew HG3.out
  rw [HLL.out.1] at n4 o4
  rw [hw4] at hHeld ⊢
  clear hw4 x1
  refine wpAnyH_take (i := 0) (v := .pointer (some ⟨g, 0, none⟩)) rfl (by kernel_rfl) (by kernel_rfl) (by kernel_rfl) (fun _ _ _ h => h) (Or.inl ⟨by rfl, by intro W hSw; clear hSw; go_simp⟩) (by assumption) ?_
  try simp only [List.getElem_toArray, List.getElem_cons_zero, List.getElem_cons_succ, Act.put, List.setIfInBounds_toArray, List.set_cons_zero, List.set_cons_succ]
  refine wpAnyH_take (i := 1) (v := .pointer (some ⟨g, 0, none⟩)) rfl (by kernel_rfl) (by kernel_rfl) (by kernel_rfl) (fun _ _ _ h => h) (Or.inl ⟨by rfl, by intro W hSw; clear hSw; go_simp⟩) (by assumption) ?_
  try simp only [List.getElem_toArray, List.getElem_cons_zero, List.getElem_cons_succ, Act.put, List.setIfInBounds_toArray, List.set_cons_zero, List.set_cons_succ]
  refine wpAnyH_take (i := 2) (v := .pointer (some ⟨g, 0, none⟩)) rfl (by kernel_rfl) (by kernel_rfl) (by kernel_rfl) (fun _ _ _ h => h) (Or.inl ⟨by rfl, by intro W hSw; clear hSw; go_simp⟩) (by assumption) ?_
  try simp only [List.getElem_toArray, List.getElem_cons_zero, List.getElem_cons_succ, Act.put, List.setIfInBounds_toArray, List.set_cons_zero, List.set_cons_succ]
  refine wpAnyH_take (i := 3) (v := .pointer (some ⟨g, 3, none⟩)) rfl (by kernel_rfl) (by kernel_rfl) (by kernel_rfl) (fun _ _ _ h => h) (Or.inl ⟨by rfl, by intro W hSw; clear hSw; go_simp⟩) (by assumption) ?_
  try simp only [List.getElem_toArray, List.getElem_cons_zero, List.getElem_cons_succ, Act.put, List.setIfInBounds_toArray, List.set_cons_zero, List.set_cons_succ]
  refine wpAnyH_take (i := 5) (v := .pointer (some ⟨g, 0, none⟩)) rfl (by kernel_rfl) (by kernel_rfl) (by kernel_rfl) (fun _ _ _ h => h) (Or.inl ⟨by rfl, by intro W hSw; clear hSw; go_simp⟩) (by assumption) ?_
  try simp only [List.getElem_toArray, List.getElem_cons_zero, List.getElem_cons_succ, Act.put, List.setIfInBounds_toArray, List.set_cons_zero, List.set_cons_succ]
  refine wpAnyH_take (i := 6) (v := .pointer (some ⟨g, 0, none⟩)) rfl (by kernel_rfl) (by kernel_rfl) (by kernel_rfl) (fun _ _ _ h => h) (Or.inl ⟨by rfl, by intro W hSw; clear hSw; go_simp⟩) (by assumption) ?_
  try simp only [List.getElem_toArray, List.getElem_cons_zero, List.getElem_cons_succ, Act.put, List.setIfInBounds_toArray, List.set_cons_zero, List.set_cons_succ]
  refine wpAnyH_take (i := 7) (v := .pointer (some ⟨g, 1, none⟩)) rfl (by kernel_rfl) (by kernel_rfl) (by kernel_rfl) (fun _ _ _ h => h) (Or.inl ⟨by rfl, by intro W hSw; clear hSw; go_simp⟩) (by assumption) ?_
  try simp only [List.getElem_toArray, List.getElem_cons_zero, List.getElem_cons_succ, Act.put, List.setIfInBounds_toArray, List.set_cons_zero, List.set_cons_succ]
  refine wpAnyH_take (i := 8) (v := .int .i64 la) rfl (by kernel_rfl) (by kernel_rfl) (by kernel_rfl) (fun _ _ _ h => h) (Or.inl ⟨by rfl, by intro W hSw; go_simp⟩) (by assumption) ?_
  try simp only [List.getElem_toArray, List.getElem_cons_zero, List.getElem_cons_succ, Act.put, List.setIfInBounds_toArray, List.set_cons_zero, List.set_cons_succ]
  refine wpAnyH_take (i := 9) (v := .int .i64 n) rfl (by kernel_rfl) (by kernel_rfl) (by kernel_rfl) (fun _ _ _ h => h) (Or.inl ⟨by rfl, by intro W hSw; clear hSw; go_simp⟩) (by assumption) ?_
  try simp only [List.getElem_toArray, List.getElem_cons_zero, List.getElem_cons_succ, Act.put, List.setIfInBounds_toArray, List.set_cons_zero, List.set_cons_succ]
  refine wpAnyH_take (i := 10) (v := .agg #[.int .i64 la, .int .i64 n, .int .i64 1, .int .i64 0, .int .i64 0, .bool false]) rfl (by kernel_rfl) (by kernel_rfl) (by kernel_rfl) (fun _ _ _ h => h) (Or.inl ⟨by rfl, by intro W hSw; clear hSw; go_simp⟩) (by assumption) ?_
  try simp only [List.getElem_toArray, List.getElem_cons_zero, List.getElem_cons_succ, Act.put, List.setIfInBounds_toArray, List.set_cons_zero, List.set_cons_succ]
  refine wpAnyH_ready (rs := [4, 11]) (by kernel_rfl) (by simp) ?_
  refine AllReadyH.cons rfl (fun KK hKK => ?_) (AllReadyH.cons rfl (fun KK hKK => ?_) AllReadyH.nil)
  · have x3 : w4.cell? ⟨g, 3, none⟩ = some (.slice (some ⟨gs, 0, none⟩) L cap) := cell_atT n4 3
    go_simp
    refine hKK.out _ _ (cell_atT n4 1) (fun hHL => ?_)
    clear hKK KK x3
    try simp only [List.getElem_toArray, List.getElem_cons_zero, List.getElem_cons_succ, Act.put, List.setIfInBounds_toArray, List.set_cons_zero, List.set_cons_succ]
    refine wpAnyH_ready (rs := [11]) (by kernel_rfl) (by simp) ?_
    refine AllReadyH.cons rfl (fun KK hKK => ?_) AllReadyH.nil
    obtain ⟨gx, hgx⟩ : ∃ x, w4.heap.size = x := ⟨_, rfl⟩
    have nx := heap_alloc_new w4 (.cells #[.int .i64 la, .int .i64 n, .int .i64 1, .int .i64 0, .int .i64 0, .bool false] 75)
    have bx := below_box w4 (.cells #[.int .i64 la, .int .i64 n, .int .i64 1, .int .i64 0, .int .i64 0, .bool false] 75)
    obtain ⟨w5, hw5⟩ : ∃ x, w4.alloc (.cells #[.int .i64 la, .int .i64 n, .int .i64 1, .int .i64 0, .int .i64 0, .bool false] 75) = x := ⟨_, rfl⟩
    rw [hw5] at nx bx
    rw [hgx] at nx
    have n5 := (bx.block g (Array.getElem?_eq_some_iff.1 n4).1).trans n4
    have o5 := o4.below bx
    have b5 := grown_transT b4 (grown_ofBelowT bx)
    go_simp
    refine hKK.out _ _ (cell_atT n5 1) (fun hHA => ?_)
    clear hKK KK bx hw5
    try simp only [List.getElem_toArray, List.getElem_cons_zero, List.getElem_cons_succ, Act.put, List.setIfInBounds_toArray, List.set_cons_zero, List.set_cons_succ]
    refine wpAnyH_ready (rs := [12]) (by kernel_rfl) (by simp) ?_
    refine AllReadyH.cons rfl (fun KK hKK => ?_) AllReadyH.nil
    rw [if_pos (by rfl)]
    have hrr : ReadsR w5 (some ⟨gx, 0, none⟩) 6 (procsV [⟨la, n, 1, 0, 0, false⟩]) := ⟨procs_rows _, .inr ⟨gx, 0, rfl, (Array.getElem?_eq_some_iff.1 nx).1, fun j u hu => by rw [Nat.zero_add]; exact (cell_atT nx j).trans (by rw [List.getElem?_toArray]; exact hu)⟩⟩
    refine wp_append_rows' (.tmp 34) (.tmp 41) 150 (by rfl) B 75 _ 6 48 Try.underlying150 info_proc (by rfl) (by decide) (.slice (some ⟨gs, 0, none⟩) L cap) (procsV T.list) (by rfl) o5 (some ⟨gx, 0, none⟩) 1 (procsV [⟨la, n, 1, 0, 0, false⟩]) (by rfl) hrr (procsV_one _) (by rw [procsV_length, procsV_length]; have := HLEN.out; show (_ + 1) * 48 ≤ _; omega) (by rw [procsV_length, procsV_length]; have := HLEN.out; unfold maxLen; show _ + 1 ≤ _; omega) (Nat.le_trans HSZ.out.2 b5.size) ?_
    intro v9 w6 oz gz
    have hap : procsV T.list ++ procsV [⟨la, n, 1, 0, 0, false⟩] = procsV (T.list ++ [⟨la, n, 1, 0, 0, false⟩]) := by unfold procsV; rw [List.map_append]
    rw [hap] at oz
    obtain ⟨gs9, cap9, hv9⟩ := own_formT oz (by rw [procsV_length, List.length_append]; simp)
    rw [procsV_length] at hv9
    obtain ⟨L9, hL9⟩ : ∃ x, (T.list ++ [(⟨la, n, 1, 0, 0, false⟩ : ProcD)]).length = x := ⟨_, rfl⟩
    rw [hL9] at hv9
    subst hv9
    have n6 := (gz.block g (Array.getElem?_eq_some_iff.1 n5).1 (by intro e; exact HBG.out.2.2 (Option.some.inj e).symm)).trans n5
    have hng : gs9 ≠ g := by intro e; exact oz.apartT n6 (by decide) (by rw [e]; rfl)
    refine hKK.out _ _ (cell_atT n6 1) (fun hHP => ?_)
    clear hKK KK hrr hap
    try simp only [List.getElem_toArray, List.getElem_cons_zero, List.getElem_cons_succ, Act.put, List.setIfInBounds_toArray, List.set_cons_zero, List.set_cons_succ]
    refine wpAnyH_take (i := 13) (v := .pointer (some ⟨g, 0, none⟩)) rfl (by kernel_rfl) (by kernel_rfl) (by kernel_rfl) (fun _ _ _ h => h) (Or.inl ⟨by rfl, by intro W hSw; clear hSw; go_simp⟩) (by assumption) ?_
    try simp only [List.getElem_toArray, List.getElem_cons_zero, List.getElem_cons_succ, Act.put, List.setIfInBounds_toArray, List.set_cons_zero, List.set_cons_succ]
    refine wpAnyH_take (i := 14) (v := .pointer (some ⟨g, 3, none⟩)) rfl (by kernel_rfl) (by kernel_rfl) (by kernel_rfl) (fun _ _ _ h => h) (Or.inl ⟨by rfl, by intro W hSw; clear hSw; go_simp⟩) (by assumption) ?_
    try simp only [List.getElem_toArray, List.getElem_cons_zero, List.getElem_cons_succ, Act.put, List.setIfInBounds_toArray, List.set_cons_zero, List.set_cons_succ]
    have y3 := cell_atT n6 3
    have fy := frozen_atT n6 3
    have ns := heap_setCell_same w6 g 3 _ _ (.slice (some ⟨gs9, 0, none⟩) L9 cap9) n6
    have gg := grown_setCellT w6 ⟨g, 3, none⟩ (.slice (some ⟨gs9, 0, none⟩) L9 cap9)
    have os := oz.kept gg (.inr (by intro e; exact hng (Option.some.inj e)))
    obtain ⟨w7, hw7⟩ : ∃ x, w6.setCell ⟨g, 3, none⟩ (.slice (some ⟨gs9, 0, none⟩) L9 cap9) = x := ⟨_, rfl⟩
    rw [hw7] at ns gg os
    refine wpAnyH_ready (rs := [15]) (by kernel_rfl) (by simp) ?_
    refine AllReadyH.cons rfl (fun KK hKK => ?_) AllReadyH.nil
    go_simp
    refine hKK.out _ _ ((cell_atT ns 1).trans rfl) (fun hHZ => ?_)
    clear hKK KK y3 fy
    try simp only [List.getElem_toArray, List.getElem_cons_zero, List.getElem_cons_succ, Act.put, List.setIfInBounds_toArray, List.set_cons_zero, List.set_cons_succ]
    refine wpAnyH_done (by kernel_rfl) ?_ _
    have HFIN : Hid (IsTable B w7 g gs9 cap9 { T with last := la, list := T.list ++ [⟨la, n, 1, 0, 0, false⟩] }) := Lib.hid ⟨by rw [← hL9] at ns; exact ns, by rw [← hL9] at os; exact os, HBG.out.1, HOK.out⟩
    have HKP : Hid (TKeeps g gs w w7) := Lib.hid ((((TKeeps.of_below HB2.out).trans (.of_g b5)).trans (.of_gs gz)).trans (.of_g gg))
    have z1 : w7.cell? ⟨g, 1, none⟩ = some (.int .i64 la) := (cell_atT ns 1).trans rfl
    clear ns gg os gz oz nx
    go_wp2
    go_ret2
    exact ⟨gs9, cap9, rfl, HFIN.out, HKP.out⟩
  · obtain ⟨gx, hgx⟩ : ∃ x, w4.heap.size = x := ⟨_, rfl⟩
    have nx := heap_alloc_new w4 (.cells #[.int .i64 la, .int .i64 n, .int .i64 1, .int .i64 0, .int .i64 0, .bool false] 75)
    have bx := below_box w4 (.cells #[.int .i64 la, .int .i64 n, .int .i64 1, .int .i64 0, .int .i64 0, .bool false] 75)
    obtain ⟨w5, hw5⟩ : ∃ x, w4.alloc (.cells #[.int .i64 la, .int .i64 n, .int .i64 1, .int .i64 0, .int .i64 0, .bool false] 75) = x := ⟨_, rfl⟩
    rw [hw5] at nx bx
    rw [hgx] at nx
    have n5 := (bx.block g (Array.getElem?_eq_some_iff.1 n4).1).trans n4
    have o5 := o4.below bx
    have b5 := grown_transT b4 (grown_ofBelowT bx)
    go_simp
    refine hKK.out _ _ (cell_atT n5 1) (fun hHA => ?_)
    clear hKK KK bx hw5
    try simp only [List.getElem_toArray, List.getElem_cons_zero, List.getElem_cons_succ, Act.put, List.setIfInBounds_toArray, List.set_cons_zero, List.set_cons_succ]
    refine wpAnyH_ready (rs := [4]) (by kernel_rfl) (by simp) ?_
    refine AllReadyH.cons rfl (fun KK hKK => ?_) AllReadyH.nil
    have x3 : w5.cell? ⟨g, 3, none⟩ = some (.slice (some ⟨gs, 0, none⟩) L cap) := cell_atT n5 3
    go_simp
    refine hKK.out _ _ (cell_atT n5 1) (fun hHL => ?_)
    clear hKK KK x3
    try simp only [List.getElem_toArray, List.getElem_cons_zero, List.getElem_cons_succ, Act.put, List.setIfInBounds_toArray, List.set_cons_zero, List.set_cons_succ]
    refine wpAnyH_ready (rs := [12]) (by kernel_rfl) (by simp) ?_
    refine AllReadyH.cons rfl (fun KK hKK => ?_) AllReadyH.nil
    rw [if_pos (by rfl)]
    have hrr : ReadsR w5 (some ⟨gx, 0, none⟩) 6 (procsV [⟨la, n, 1, 0, 0, false⟩]) := ⟨procs_rows _, .inr ⟨gx, 0, rfl, (Array.getElem?_eq_some_iff.1 nx).1, fun j u hu => by rw [Nat.zero_add]; exact (cell_atT nx j).trans (by rw [List.getElem?_toArray]; exact hu)⟩⟩
    refine wp_append_rows' (.tmp 34) (.tmp 41) 150 (by rfl) B 75 _ 6 48 Try.underlying150 info_proc (by rfl) (by decide) (.slice (some ⟨gs, 0, none⟩) L cap) (procsV T.list) (by rfl) o5 (some ⟨gx, 0, none⟩) 1 (procsV [⟨la, n, 1, 0, 0, false⟩]) (by rfl) hrr (procsV_one _) (by rw [procsV_length, procsV_length]; have := HLEN.out; show (_ + 1) * 48 ≤ _; omega) (by rw [procsV_length, procsV_length]; have := HLEN.out; unfold maxLen; show _ + 1 ≤ _; omega) (Nat.le_trans HSZ.out.2 b5.size) ?_
    intro v9 w6 oz gz
    have hap : procsV T.list ++ procsV [⟨la, n, 1, 0, 0, false⟩] = procsV (T.list ++ [⟨la, n, 1, 0, 0, false⟩]) := by unfold procsV; rw [List.map_append]
    rw [hap] at oz
    obtain ⟨gs9, cap9, hv9⟩ := own_formT oz (by rw [procsV_length, List.length_append]; simp)
    rw [procsV_length] at hv9
    obtain ⟨L9, hL9⟩ : ∃ x, (T.list ++ [(⟨la, n, 1, 0, 0, false⟩ : ProcD)]).length = x := ⟨_, rfl⟩
    rw [hL9] at hv9
    subst hv9
    have n6 := (gz.block g (Array.getElem?_eq_some_iff.1 n5).1 (by intro e; exact HBG.out.2.2 (Option.some.inj e).symm)).trans n5
    have hng : gs9 ≠ g := by intro e; exact oz.apartT n6 (by decide) (by rw [e]; rfl)
    refine hKK.out _ _ (cell_atT n6 1) (fun hHP => ?_)
    clear hKK KK hrr hap
    try simp only [List.getElem_toArray, List.getElem_cons_zero, List.getElem_cons_succ, Act.put, List.setIfInBounds_toArray, List.set_cons_zero, List.set_cons_succ]
    refine wpAnyH_take (i := 13) (v := .pointer (some ⟨g, 0, none⟩)) rfl (by kernel_rfl) (by kernel_rfl) (by kernel_rfl) (fun _ _ _ h => h) (Or.inl ⟨by rfl, by intro W hSw; clear hSw; go_simp⟩) (by assumption) ?_
    try simp only [List.getElem_toArray, List.getElem_cons_zero, List.getElem_cons_succ, Act.put, List.setIfInBounds_toArray, List.set_cons_zero, List.set_cons_succ]
    refine wpAnyH_take (i := 14) (v := .pointer (some ⟨g, 3, none⟩)) rfl (by kernel_rfl) (by kernel_rfl) (by kernel_rfl) (fun _ _ _ h => h) (Or.inl ⟨by rfl, by intro W hSw; clear hSw; go_simp⟩) (by assumption) ?_
    try simp only [List.getElem_toArray, List.getElem_cons_zero, List.getElem_cons_succ, Act.put, List.setIfInBounds_toArray, List.set_cons_zero, List.set_cons_succ]
    have y3 := cell_atT n6 3
    have fy := frozen_atT n6 3
    have ns := heap_setCell_same w6 g 3 _ _ (.slice (some ⟨gs9, 0, none⟩) L9 cap9) n6
    have gg := grown_setCellT w6 ⟨g, 3, none⟩ (.slice (some ⟨gs9, 0, none⟩) L9 cap9)
    have os := oz.kept gg (.inr (by intro e; exact hng (Option.some.inj e)))
    obtain ⟨w7, hw7⟩ : ∃ x, w6.setCell ⟨g, 3, none⟩ (.slice (some ⟨gs9, 0, none⟩) L9 cap9) = x := ⟨_, rfl⟩
    rw [hw7] at ns gg os
    refine wpAnyH_ready (rs := [15]) (by kernel_rfl) (by simp) ?_
    refine AllReadyH.cons rfl (fun KK hKK => ?_) AllReadyH.nil
    go_simp
    refine hKK.out _ _ ((cell_atT ns 1).trans rfl) (fun hHZ => ?_)
    clear hKK KK y3 fy
    try simp only [List.getElem_toArray, List.getElem_cons_zero, List.getElem_cons_succ, Act.put, List.setIfInBounds_toArray, List.set_cons_zero, List.set_cons_succ]
    refine wpAnyH_done (by kernel_rfl) ?_ _
    have HFIN : Hid (IsTable B w7 g gs9 cap9 { T with last := la, list := T.list ++ [⟨la, n, 1, 0, 0, false⟩] }) := Lib.hid ⟨by rw [← hL9] at ns; exact ns, by rw [← hL9] at os; exact os, HBG.out.1, HOK.out⟩
    have HKP : Hid (TKeeps g gs w w7) := Lib.hid ((((TKeeps.of_below HB2.out).trans (.of_g b5)).trans (.of_gs gz)).trans (.of_g gg))
    have z1 : w7.cell? ⟨g, 1, none⟩ = some (.int .i64 la) := (cell_atT ns 1).trans rfl
    clear ns gg os gz oz nx
    go_wp2
    go_ret2
    exact ⟨gs9, cap9, rfl, HFIN.out, HKP.out⟩
end Go.Proofs.Ythainmbapikjiaa
