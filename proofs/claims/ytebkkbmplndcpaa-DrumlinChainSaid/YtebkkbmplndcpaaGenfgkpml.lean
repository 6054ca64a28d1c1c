/- Processes: Fork, by its walk. Processes: Tick, by its walk. -/
import Derived.Test.YtebkkbmplndcpaaGnbpiljmh
import Derived.Deep.RegionHeld
import Derived.Deep.RegionHeld3
import Derived.OrdersHeld
import Derived.Lib.QuietBelow
import Derived.BigQuiet
namespace Go.Proofs.Ytebkkbmplndcpaa
open Go.RowKit Go.Sort
set_option linter.unusedVariables false
set_option linter.unusedSimpArgs false
set_option maxRecDepth 100000

theorem info_proc : (Try.prog.info? 40).map (fun i => (i.zero, i.size, i.bytes)) = some (some (.agg #[.int .i64 0, .int .i64 0, .int .i64 0, .int .i64 0, .int .i64 0, .bool false]), 6, 48) := by kernel_rfl
theorem own_formT {B : Nat} {w : World} {e : TypeId} {k : Nat} {v : Value} {l : List (List Value)} (h : OwnsR' B w e k v l) (hl : 1 ≤ l.length) : ∃ g c, v = .slice (some ⟨g, 0, none⟩) l.length c := by
  obtain ⟨h0, h1, ⟨_, hn⟩ | ⟨g, cap, cur, hv, hB, hg, hc, hm, hs, ht⟩⟩ := h
  · omega
  · exact ⟨g, cap, hv⟩
set_option maxHeartbeats 1600000 in
theorem tfork_no {B : Nat} {w : World} {g gs cap : Nat} {T : TabD} (h : IsTable B w g gs cap T) {n : Int} (hg : Gone T n) :
    Calls Try.prog 9 #[.pointer (some ⟨g, 0, none⟩), .int .i64 n] w (TPost B w g gs T (.tuple #[.int .i64 0, .int .i64 18])) := by
  have HF := Lib.hid (tLive_no h hg)
  have H := Lib.hid h
  clear h hg
  go_enter Try.func9, Try.ntmps9
  go_wp2_with fail
  refine HF.out.mono ?_
  rintro e w1 ⟨rfl, b1⟩
  have HB := Lib.hid b1
  clear b1
  go_wp2
  go_ret2
  exact TPost.same H.out HB.out _
set_option maxHeartbeats 1600000 in
theorem tfork_full {B : Nat} {w : World} {g gs cap : Nat} {T : TabD} (h : IsTable B w g gs cap T) {n : Int} {i : Nat} {s : ProcD} (hf : Found T n i s) (hs : s.state ≠ 3) (hfull : T.most ≤ (T.list.length : Int)) :
    Calls Try.prog 9 #[.pointer (some ⟨g, 0, none⟩), .int .i64 n] w (TPost B w g gs T (.tuple #[.int .i64 0, .int .i64 15])) := by
  have HF := Lib.hid (tLive_yes h hf hs)
  have HR := Lib.hid (fun (W : World) (hW : Below w.heap.size w W) => table_facts (h.below hW))
  have H := Lib.hid h
  obtain ⟨L, hL⟩ : ∃ x, T.list.length = x := ⟨_, rfl⟩
  obtain ⟨M, hM⟩ : ∃ x, T.most = x := ⟨_, rfl⟩
  rw [hL, hM] at HR hfull
  clear h hf hs hL hM
  go_enter Try.func9, Try.ntmps9
  go_wp2_with fail
  refine HF.out.mono ?_
  rintro e w1 ⟨rfl, b1⟩
  obtain ⟨c0, c1, c2, c3⟩ := HR.out w1 b1
  have HB := Lib.hid b1
  clear b1 c1 c2
  go_wp2
  go_quiet (fail)
  go_wp2
  go_ret2
  exact TPost.same H.out (below_next HB.out (below_drewN _ _)) _
set_option maxHeartbeats 1600000 in
theorem tfork_yes {B : Nat} {w : World} {g gs cap : Nat} {T : TabD} (h : IsTable B w g gs cap T) {n : Int} {i : Nat} {s : ProcD} (hf : Found T n i s) (hs : s.state ≠ 3) (hroom : (T.list.length : Int) < T.most) (hlast : T.last < 1000000) :
    Calls Try.prog 9 #[.pointer (some ⟨g, 0, none⟩), .int .i64 n] w (TPost B w g gs { T with last := T.last + 1, list := T.list ++ [⟨T.last + 1, n, 1, 0, 0, false⟩] } (.tuple #[.int .i64 (T.last + 1), .int .i64 0])) := by
  have HF := Lib.hid (tLive_yes h hf hs)
  have hB := (table_lt h).2.2
  obtain ⟨o1, o2, o3, o4, o5, o6, o7⟩ := h.2.2.2
  have HOK : Hid (TabOk { T with last := T.last + 1, list := T.list ++ [⟨T.last + 1, n, 1, 0, 0, false⟩] }) := Lib.hid ⟨o1, o2, by show 1 ≤ (T.list ++ _).length; rw [List.length_append]; simp, by show (T.list ++ _).length ≤ 16; rw [List.length_append]; simp; omega, o5, o6, by show 0 ≤ T.last + 1; omega⟩
  have HLEN : Hid (1 ≤ T.list.length ∧ T.list.length ≤ 16) := Lib.hid ⟨o3, o4⟩
  obtain ⟨la0, hla0⟩ : ∃ x, T.last = x := ⟨_, rfl⟩
  obtain ⟨la, hla⟩ : ∃ x, la0 + 1 = x := ⟨_, rfl⟩
  have HLA := Lib.hid (And.intro hla0 hla)
  have HTT : Hid ({ T with last := T.last + 1, list := T.list ++ [⟨T.last + 1, n, 1, 0, 0, false⟩] } = ({ T with last := la, list := T.list ++ [⟨la, n, 1, 0, 0, false⟩] } : TabD)) := Lib.hid (by rw [hla0, hla])
  rw [HTT.out] at HOK ⊢
  rw [hla0, hla]
  have hw1 : IntKind.i64.wrap (la0 + 1) = la := by rw [IntWalk.i64_in _ (by omega)]; exact hla
  have HR := Lib.hid (fun (W : World) (hW : Below w.heap.size w W) => table_facts (h.below hW))
  rw [hla0] at HR
  have H := Lib.hid h
  have HBG := Lib.hid (And.intro h.2.2.1 (And.intro hB h.apart))
  obtain ⟨L, hL⟩ : ∃ x, T.list.length = x := ⟨_, rfl⟩
  obtain ⟨M, hM⟩ : ∃ x, T.most = x := ⟨_, rfl⟩
  rw [hL, hM] at HR hroom
  have hroom' : ¬ M ≤ (L : Int) := by omega
  have HLL := Lib.hid (And.intro hL hM)
  clear h hf hs hL hM hla hla0 o1 o2 o3 o4 o5 o6 o7 hlast hB hroom
  go_enter Try.func9, Try.ntmps9
  go_wp2_with fail
  refine HF.out.mono ?_
  rintro e w1 ⟨rfl, b1⟩
  obtain ⟨c0, c1, c2, c3⟩ := HR.out w1 b1
  have HB := Lib.hid b1
  clear b1 c1 c2
  go_wp2
  go_quiet (fail)
  have HB2 := Lib.hid (below_next HB.out (below_drewN w1 nq))
  clear c0 c3 HB
  generalize w1.drewN nq = w2 at *
  obtain ⟨c0, c1, c2, c3⟩ := HR.out w2 HB2.out
  have hn2 := (H.out.below HB2.out).1
  have f1 := frozen_atT hn2 1
  have n3 := heap_setCell_same w2 g 1 _ _ (.int .i64 la) hn2
  have g3 := grown_setCellT w2 ⟨g, 1, none⟩ (.int .i64 la)
  have o3 := (H.out.below HB2.out).2.1.kept g3 (.inr (by intro e; exact HBG.out.2.2 (Option.some.inj e)))
  obtain ⟨w3, hw3⟩ : ∃ x, w2.setCell ⟨g, 1, none⟩ (.int .i64 la) = x := ⟨_, rfl⟩
  rw [hw3] at n3 g3 o3
  have n3' : w3.heap[g]? = some (.cells #[.int .i64 T.most, .int .i64 la, .int .i64 T.now, .slice (some ⟨gs, 0, none⟩) T.list.length cap] 77 (0, 0)) := n3
  have HN3 := Lib.hid n3'
  have HO3 := Lib.hid o3
  have HG3 := Lib.hid g3
  have hgl : g < w2.heap.size := (Array.getElem?_eq_some_iff.1 hn2).1
  have HSZ := Lib.hid (And.intro hgl (Nat.le_trans HBG.out.2.1 (Nat.le_of_lt (table_lt (H.out.below HB2.out)).2.1)))
  clear n3 n3' g3 o3 hn2 hgl
  go_upto_region 7 with fail
  clear c0 c1 c2 c3 f1
  try rw [hw3]
  clear hw3
  have x1 : w3.drew.cell? ⟨g, 1, none⟩ = some (.int .i64 la) := cell_atT (w := w3) HN3.out 1
  refine wp_region_held_drew (S := fun W => W.cell? ⟨g, 1, none⟩ = some (.int .i64 la)) (by kernel_rfl) x1 (fun hHeld => ?_)
  obtain ⟨w4, hw4⟩ : ∃ x, w3.drew = x := ⟨_, rfl⟩
  have n4 : w4.heap[g]? = some (.cells #[.int .i64 T.most, .int .i64 la, .int .i64 T.now, .slice (some ⟨gs, 0, none⟩) T.list.length cap] 77 (0, 0)) := by rw [← hw4]; exact HN3.out
  have o4 : OwnsR' B w4 40 6 (.slice (some ⟨gs, 0, none⟩) T.list.length cap) (procsV T.list) := by rw [← hw4]; exact HO3.out.below (below_drew w3)
  have b4 : w2.grownBy w4 (some g) := by rw [← hw4]; exact grown_to_drew HG3.out
  rw [HLL.out.1] at n4 o4
  rw [hw4] at hHeld ⊢
  clear hw4 x1
  refine wpAnyH_take (i := 0) (v := .pointer (some ⟨g, 0, none⟩)) rfl (by kernel_rfl) (by kernel_rfl) (by kernel_rfl) (fun _ _ _ h => h) (Or.inl ⟨by rfl, by intro W hSw; clear hSw; go_simp⟩) (by assumption) ?_
  try simp only [List.getElem_toArray, List.getElem_cons_zero, List.getElem_cons_succ, Act.put, List.setIfInBounds_toArray, List.set_cons_zero, List.set_cons_succ]
  refine wpAnyH_take (i := 1) (v := .pointer (some ⟨g, 0, none⟩)) rfl (by kernel_rfl) (by kernel_rfl) (by kernel_rfl) (fun _ _ _ h => h) (Or.inl ⟨by rfl, by intro W hSw; clear hSw; go_simp⟩) (by assumption) ?_
  try simp only [List.getElem_toArray, List.getElem_cons_zero, List.getElem_cons_succ, Act.put, List.setIfInBounds_toArray, List.set_cons_zero, List.set_cons_succ]
  refine wpAnyH_take (i := 2) (v := .pointer (some ⟨g, 0, none⟩)) rfl (by kernel_rfl) (by kernel_rfl) (by kernel_rfl) (fun _ _ _ h => h) (Or.inl ⟨by rfl, by intro W hSw; clear hSw; go_simp⟩) (by assumption) ?_
  try simp only [List.getElem_toArray, List.getElem_cons_zero, List.getElem_cons_succ, Act.put, List.setIfInBounds_toArray, List.set_cons_zero, List.set_cons_succ]
  refine wpAnyH_take (i := 3) (v := .pointer (some ⟨g, 3, none⟩)) rfl (by kernel_rfl) (by kernel_rfl) (by kernel_rfl) (fun _ _ _ h => h) (Or.inl ⟨by rfl, by intro W hSw; clear hSw; go_simp⟩) (by assumption) ?_
  try simp only [List.getElem_toArray, List.getElem_cons_zero, List.getElem_cons_succ, Act.put, List.setIfInBounds_toArray, List.set_cons_zero, List.set_cons_succ]
  refine wpAnyH_take (i := 5) (v := .pointer (some ⟨g, 0, none⟩)) rfl (by kernel_rfl) (by kernel_rfl) (by kernel_rfl) (fun _ _ _ h => h) (Or.inl ⟨by rfl, by intro W hSw; clear hSw; go_simp⟩) (by assumption) ?_
  try simp only [List.getElem_toArray, List.getElem_cons_zero, List.getElem_cons_succ, Act.put, List.setIfInBounds_toArray, List.set_cons_zero, List.set_cons_succ]
  refine wpAnyH_take (i := 6) (v := .pointer (some ⟨g, 0, none⟩)) rfl (by kernel_rfl) (by kernel_rfl) (by kernel_rfl) (fun _ _ _ h => h) (Or.inl ⟨by rfl, by intro W hSw; clear hSw; go_simp⟩) (by assumption) ?_
  try simp only [List.getElem_toArray, List.getElem_cons_zero, List.getElem_cons_succ, Act.put, List.setIfInBounds_toArray, List.set_cons_zero, List.set_cons_succ]
  refine wpAnyH_take (i := 7) (v := .pointer (some ⟨g, 1, none⟩)) rfl (by kernel_rfl) (by kernel_rfl) (by kernel_rfl) (fun _ _ _ h => h) (Or.inl ⟨by rfl, by intro W hSw; clear hSw; go_simp⟩) (by assumption) ?_
  try simp only [List.getElem_toArray, List.getElem_cons_zero, List.getElem_cons_succ, Act.put, List.setIfInBounds_toArray, List.set_cons_zero, List.set_cons_succ]
  refine wpAnyH_take (i := 8) (v := .int .i64 la) rfl (by kernel_rfl) (by kernel_rfl) (by kernel_rfl) (fun _ _ _ h => h) (Or.inl ⟨by rfl, by intro W hSw; go_simp⟩) (by assumption) ?_
  try simp only [List.getElem_toArray, List.getElem_cons_zero, List.getElem_cons_succ, Act.put, List.setIfInBounds_toArray, List.set_cons_zero, List.set_cons_succ]
  refine wpAnyH_take (i := 9) (v := .int .i64 n) rfl (by kernel_rfl) (by kernel_rfl) (by kernel_rfl) (fun _ _ _ h => h) (Or.inl ⟨by rfl, by intro W hSw; clear hSw; go_simp⟩) (by assumption) ?_
  try simp only [List.getElem_toArray, List.getElem_cons_zero, List.getElem_cons_succ, Act.put, List.setIfInBounds_toArray, List.set_cons_zero, List.set_cons_succ]
  refine wpAnyH_take (i := 10) (v := .agg #[.int .i64 la, .int .i64 n, .int .i64 1, .int .i64 0, .int .i64 0, .bool false]) rfl (by kernel_rfl) (by kernel_rfl) (by kernel_rfl) (fun _ _ _ h => h) (Or.inl ⟨by rfl, by intro W hSw; clear hSw; go_simp⟩) (by assumption) ?_
  try simp only [List.getElem_toArray, List.getElem_cons_zero, List.getElem_cons_succ, Act.put, List.setIfInBounds_toArray, List.set_cons_zero, List.set_cons_succ]
  refine wpAnyH_ready (rs := [4, 11]) (by kernel_rfl) (by simp) ?_
  refine AllReadyH.cons rfl (fun KK hKK => ?_) (AllReadyH.cons rfl (fun KK hKK => ?_) AllReadyH.nil)
  · have x3 : w4.cell? ⟨g, 3, none⟩ = some (.slice (some ⟨gs, 0, none⟩) L cap) := cell_atT n4 3
    go_simp
    refine hKK.out _ _ (cell_atT n4 1) (fun hHL => ?_)
    clear hKK KK x3
    try simp only [List.getElem_toArray, List.getElem_cons_zero, List.getElem_cons_succ, Act.put, List.setIfInBounds_toArray, List.set_cons_zero, List.set_cons_succ]
    refine wpAnyH_ready (rs := [11]) (by kernel_rfl) (by simp) ?_
    refine AllReadyH.cons rfl (fun KK hKK => ?_) AllReadyH.nil
    obtain ⟨gx, hgx⟩ : ∃ x, w4.heap.size = x := ⟨_, rfl⟩
    have nx := heap_alloc_new w4 (.cells #[.int .i64 la, .int .i64 n, .int .i64 1, .int .i64 0, .int .i64 0, .bool false] 40)
    have bx := below_box w4 (.cells #[.int .i64 la, .int .i64 n, .int .i64 1, .int .i64 0, .int .i64 0, .bool false] 40)
    obtain ⟨w5, hw5⟩ : ∃ x, w4.alloc (.cells #[.int .i64 la, .int .i64 n, .int .i64 1, .int .i64 0, .int .i64 0, .bool false] 40) = x := ⟨_, rfl⟩
    rw [hw5] at nx bx
    rw [hgx] at nx
    have n5 := (bx.block g (Array.getElem?_eq_some_iff.1 n4).1).trans n4
    have o5 := o4.below bx
    have b5 := grown_transT b4 (grown_ofBelowT bx)
    go_simp
    refine hKK.out _ _ (cell_atT n5 1) (fun hHA => ?_)
    clear hKK KK bx hw5
    try simp only [List.getElem_toArray, List.getElem_cons_zero, List.getElem_cons_succ, Act.put, List.setIfInBounds_toArray, List.set_cons_zero, List.set_cons_succ]
    refine wpAnyH_ready (rs := [12]) (by kernel_rfl) (by simp) ?_
    refine AllReadyH.cons rfl (fun KK hKK => ?_) AllReadyH.nil
    rw [if_pos (by rfl)]
    have hrr : ReadsR w5 (some ⟨gx, 0, none⟩) 6 (procsV [⟨la, n, 1, 0, 0, false⟩]) := ⟨procs_rows _, .inr ⟨gx, 0, rfl, (Array.getElem?_eq_some_iff.1 nx).1, fun j u hu => by rw [Nat.zero_add]; exact (cell_atT nx j).trans (by rw [List.getElem?_toArray]; exact hu)⟩⟩
    refine wp_append_rows' (.tmp 34) (.tmp 41) 75 (by rfl) B 40 _ 6 48 Try.underlying75 info_proc (by rfl) (by decide) (.slice (some ⟨gs, 0, none⟩) L cap) (procsV T.list) (by rfl) o5 (some ⟨gx, 0, none⟩) 1 (procsV [⟨la, n, 1, 0, 0, false⟩]) (by rfl) hrr (procsV_one _) (by rw [procsV_length, procsV_length]; have := HLEN.out; show (_ + 1) * 48 ≤ _; omega) (by rw [procsV_length, procsV_length]; have := HLEN.out; unfold maxLen; show _ + 1 ≤ _; omega) (Nat.le_trans HSZ.out.2 b5.size) ?_
    intro v9 w6 oz gz
    have hap : procsV T.list ++ procsV [⟨la, n, 1, 0, 0, false⟩] = procsV (T.list ++ [⟨la, n, 1, 0, 0, false⟩]) := by unfold procsV; rw [List.map_append]
    rw [hap] at oz
    obtain ⟨gs9, cap9, hv9⟩ := own_formT oz (by rw [procsV_length, List.length_append]; simp)
    rw [procsV_length] at hv9
    obtain ⟨L9, hL9⟩ : ∃ x, (T.list ++ [(⟨la, n, 1, 0, 0, false⟩ : ProcD)]).length = x := ⟨_, rfl⟩
    rw [hL9] at hv9
    subst hv9
    have n6 := (gz.block g (Array.getElem?_eq_some_iff.1 n5).1 (by intro e; exact HBG.out.2.2 (Option.some.inj e).symm)).trans n5
    have hng : gs9 ≠ g := by intro e; exact oz.apartT n6 (by decide) (by rw [e]; rfl)
    refine hKK.out _ _ (cell_atT n6 1) (fun hHP => ?_)
    clear hKK KK hrr hap
    try simp only [List.getElem_toArray, List.getElem_cons_zero, List.getElem_cons_succ, Act.put, List.setIfInBounds_toArray, List.set_cons_zero, List.set_cons_succ]
    refine wpAnyH_take (i := 13) (v := .pointer (some ⟨g, 0, none⟩)) rfl (by kernel_rfl) (by kernel_rfl) (by kernel_rfl) (fun _ _ _ h => h) (Or.inl ⟨by rfl, by intro W hSw; clear hSw; go_simp⟩) (by assumption) ?_
    try simp only [List.getElem_toArray, List.getElem_cons_zero, List.getElem_cons_succ, Act.put, List.setIfInBounds_toArray, List.set_cons_zero, List.set_cons_succ]
    refine wpAnyH_take (i := 14) (v := .pointer (some ⟨g, 3, none⟩)) rfl (by kernel_rfl) (by kernel_rfl) (by kernel_rfl) (fun _ _ _ h => h) (Or.inl ⟨by rfl, by intro W hSw; clear hSw; go_simp⟩) (by assumption) ?_
    try simp only [List.getElem_toArray, List.getElem_cons_zero, List.getElem_cons_succ, Act.put, List.setIfInBounds_toArray, List.set_cons_zero, List.set_cons_succ]
    have y3 := cell_atT n6 3
    have fy := frozen_atT n6 3
    have ns := heap_setCell_same w6 g 3 _ _ (.slice (some ⟨gs9, 0, none⟩) L9 cap9) n6
    have gg := grown_setCellT w6 ⟨g, 3, none⟩ (.slice (some ⟨gs9, 0, none⟩) L9 cap9)
    have os := oz.kept gg (.inr (by intro e; exact hng (Option.some.inj e)))
    obtain ⟨w7, hw7⟩ : ∃ x, w6.setCell ⟨g, 3, none⟩ (.slice (some ⟨gs9, 0, none⟩) L9 cap9) = x := ⟨_, rfl⟩
    rw [hw7] at ns gg os
    refine wpAnyH_ready (rs := [15]) (by kernel_rfl) (by simp) ?_
    refine AllReadyH.cons rfl (fun KK hKK => ?_) AllReadyH.nil
    go_simp
    refine hKK.out _ _ ((cell_atT ns 1).trans rfl) (fun hHZ => ?_)
    clear hKK KK y3 fy
    try simp only [List.getElem_toArray, List.getElem_cons_zero, List.getElem_cons_succ, Act.put, List.setIfInBounds_toArray, List.set_cons_zero, List.set_cons_succ]
    refine wpAnyH_done (by kernel_rfl) ?_ _
    have HFIN : Hid (IsTable B w7 g gs9 cap9 { T with last := la, list := T.list ++ [⟨la, n, 1, 0, 0, false⟩] }) := Lib.hid ⟨by rw [← hL9] at ns; exact ns, by rw [← hL9] at os; exact os, HBG.out.1, HOK.out⟩
    have HKP : Hid (TKeeps g gs w w7) := Lib.hid ((((TKeeps.of_below HB2.out).trans (.of_g b5)).trans (.of_gs gz)).trans (.of_g gg))
    have z1 : w7.cell? ⟨g, 1, none⟩ = some (.int .i64 la) := (cell_atT ns 1).trans rfl
    clear ns gg os gz oz nx
    go_wp2
    go_ret2
    exact ⟨gs9, cap9, rfl, HFIN.out, HKP.out⟩
  · obtain ⟨gx, hgx⟩ : ∃ x, w4.heap.size = x := ⟨_, rfl⟩
    have nx := heap_alloc_new w4 (.cells #[.int .i64 la, .int .i64 n, .int .i64 1, .int .i64 0, .int .i64 0, .bool false] 40)
    have bx := below_box w4 (.cells #[.int .i64 la, .int .i64 n, .int .i64 1, .int .i64 0, .int .i64 0, .bool false] 40)
    obtain ⟨w5, hw5⟩ : ∃ x, w4.alloc (.cells #[.int .i64 la, .int .i64 n, .int .i64 1, .int .i64 0, .int .i64 0, .bool false] 40) = x := ⟨_, rfl⟩
    rw [hw5] at nx bx
    rw [hgx] at nx
    have n5 := (bx.block g (Array.getElem?_eq_some_iff.1 n4).1).trans n4
    have o5 := o4.below bx
    have b5 := grown_transT b4 (grown_ofBelowT bx)
    go_simp
    refine hKK.out _ _ (cell_atT n5 1) (fun hHA => ?_)
    clear hKK KK bx hw5
    try simp only [List.getElem_toArray, List.getElem_cons_zero, List.getElem_cons_succ, Act.put, List.setIfInBounds_toArray, List.set_cons_zero, List.set_cons_succ]
    refine wpAnyH_ready (rs := [4]) (by kernel_rfl) (by simp) ?_
    refine AllReadyH.cons rfl (fun KK hKK => ?_) AllReadyH.nil
    have x3 : w5.cell? ⟨g, 3, none⟩ = some (.slice (some ⟨gs, 0, none⟩) L cap) := cell_atT n5 3
    go_simp
    refine hKK.out _ _ (cell_atT n5 1) (fun hHL => ?_)
    clear hKK KK x3
    try simp only [List.getElem_toArray, List.getElem_cons_zero, List.getElem_cons_succ, Act.put, List.setIfInBounds_toArray, List.set_cons_zero, List.set_cons_succ]
    refine wpAnyH_ready (rs := [12]) (by kernel_rfl) (by simp) ?_
    refine AllReadyH.cons rfl (fun KK hKK => ?_) AllReadyH.nil
    rw [if_pos (by rfl)]
    have hrr : ReadsR w5 (some ⟨gx, 0, none⟩) 6 (procsV [⟨la, n, 1, 0, 0, false⟩]) := ⟨procs_rows _, .inr ⟨gx, 0, rfl, (Array.getElem?_eq_some_iff.1 nx).1, fun j u hu => by rw [Nat.zero_add]; exact (cell_atT nx j).trans (by rw [List.getElem?_toArray]; exact hu)⟩⟩
    refine wp_append_rows' (.tmp 34) (.tmp 41) 75 (by rfl) B 40 _ 6 48 Try.underlying75 info_proc (by rfl) (by decide) (.slice (some ⟨gs, 0, none⟩) L cap) (procsV T.list) (by rfl) o5 (some ⟨gx, 0, none⟩) 1 (procsV [⟨la, n, 1, 0, 0, false⟩]) (by rfl) hrr (procsV_one _) (by rw [procsV_length, procsV_length]; have := HLEN.out; show (_ + 1) * 48 ≤ _; omega) (by rw [procsV_length, procsV_length]; have := HLEN.out; unfold maxLen; show _ + 1 ≤ _; omega) (Nat.le_trans HSZ.out.2 b5.size) ?_
    intro v9 w6 oz gz
    have hap : procsV T.list ++ procsV [⟨la, n, 1, 0, 0, false⟩] = procsV (T.list ++ [⟨la, n, 1, 0, 0, false⟩]) := by unfold procsV; rw [List.map_append]
    rw [hap] at oz
    obtain ⟨gs9, cap9, hv9⟩ := own_formT oz (by rw [procsV_length, List.length_append]; simp)
    rw [procsV_length] at hv9
    obtain ⟨L9, hL9⟩ : ∃ x, (T.list ++ [(⟨la, n, 1, 0, 0, false⟩ : ProcD)]).length = x := ⟨_, rfl⟩
    rw [hL9] at hv9
    subst hv9
    have n6 := (gz.block g (Array.getElem?_eq_some_iff.1 n5).1 (by intro e; exact HBG.out.2.2 (Option.some.inj e).symm)).trans n5
    have hng : gs9 ≠ g := by intro e; exact oz.apartT n6 (by decide) (by rw [e]; rfl)
    refine hKK.out _ _ (cell_atT n6 1) (fun hHP => ?_)
    clear hKK KK hrr hap
    try simp only [List.getElem_toArray, List.getElem_cons_zero, List.getElem_cons_succ, Act.put, List.setIfInBounds_toArray, List.set_cons_zero, List.set_cons_succ]
    refine wpAnyH_take (i := 13) (v := .pointer (some ⟨g, 0, none⟩)) rfl (by kernel_rfl) (by kernel_rfl) (by kernel_rfl) (fun _ _ _ h => h) (Or.inl ⟨by rfl, by intro W hSw; clear hSw; go_simp⟩) (by assumption) ?_
    try simp only [List.getElem_toArray, List.getElem_cons_zero, List.getElem_cons_succ, Act.put, List.setIfInBounds_toArray, List.set_cons_zero, List.set_cons_succ]
    refine wpAnyH_take (i := 14) (v := .pointer (some ⟨g, 3, none⟩)) rfl (by kernel_rfl) (by kernel_rfl) (by kernel_rfl) (fun _ _ _ h => h) (Or.inl ⟨by rfl, by intro W hSw; clear hSw; go_simp⟩) (by assumption) ?_
    try simp only [List.getElem_toArray, List.getElem_cons_zero, List.getElem_cons_succ, Act.put, List.setIfInBounds_toArray, List.set_cons_zero, List.set_cons_succ]
    have y3 := cell_atT n6 3
    have fy := frozen_atT n6 3
    have ns := heap_setCell_same w6 g 3 _ _ (.slice (some ⟨gs9, 0, none⟩) L9 cap9) n6
    have gg := grown_setCellT w6 ⟨g, 3, none⟩ (.slice (some ⟨gs9, 0, none⟩) L9 cap9)
    have os := oz.kept gg (.inr (by intro e; exact hng (Option.some.inj e)))
    obtain ⟨w7, hw7⟩ : ∃ x, w6.setCell ⟨g, 3, none⟩ (.slice (some ⟨gs9, 0, none⟩) L9 cap9) = x := ⟨_, rfl⟩
    rw [hw7] at ns gg os
    refine wpAnyH_ready (rs := [15]) (by kernel_rfl) (by simp) ?_
    refine AllReadyH.cons rfl (fun KK hKK => ?_) AllReadyH.nil
    go_simp
    refine hKK.out _ _ ((cell_atT ns 1).trans rfl) (fun hHZ => ?_)
    clear hKK KK y3 fy
    try simp only [List.getElem_toArray, List.getElem_cons_zero, List.getElem_cons_succ, Act.put, List.setIfInBounds_toArray, List.set_cons_zero, List.set_cons_succ]
    refine wpAnyH_done (by kernel_rfl) ?_ _
    have HFIN : Hid (IsTable B w7 g gs9 cap9 { T with last := la, list := T.list ++ [⟨la, n, 1, 0, 0, false⟩] }) := Lib.hid ⟨by rw [← hL9] at ns; exact ns, by rw [← hL9] at os; exact os, HBG.out.1, HOK.out⟩
    have HKP : Hid (TKeeps g gs w w7) := Lib.hid ((((TKeeps.of_below HB2.out).trans (.of_g b5)).trans (.of_gs gz)).trans (.of_g gg))
    have z1 : w7.cell? ⟨g, 1, none⟩ = some (.int .i64 la) := (cell_atT ns 1).trans rfl
    clear ns gg os gz oz nx
    go_wp2
    go_ret2
    exact ⟨gs9, cap9, rfl, HFIN.out, HKP.out⟩
end Go.Proofs.Ytebkkbmplndcpaa

namespace Go.Proofs.Ytebkkbmplndcpaa
open Go.RowKit Go.Sort
set_option linter.unusedVariables false
set_option linter.unusedSimpArgs false
set_option maxRecDepth 100000

/-- Whose time has come. -/
def dueB (now : Int) (u : ProcD) : Bool := decide (u.state = 2) && decide (u.til ≤ now)
theorem enters_tick1 (args : Array Value) (w : World) : (callFunc 82 args).run Try.prog w = .ok (.enter 82 args) w := enters_of Try.func82 (by kernel_rfl) rfl args w
set_option maxHeartbeats 1600000 in
theorem due_pred {w : World} {bp g : Nat} {now : Int} (hb : bp < w.heap.size) (hg : g < w.heap.size) (h : w.cell? ⟨bp, 0, none⟩ = some (.pointer (some ⟨g, 0, none⟩))) (h2 : w.cell? ⟨g, 2, none⟩ = some (.int .i64 now)) : PredV 82 #[.pointer (some ⟨bp, 0, none⟩)] (fun s => .agg (procV s).toArray) (fun _ => True) (dueB now) w := by
  intro W s _ hB
  have b0 := below_box W (.cells #[.int .i64 s.pid, .int .i64 s.parent, .int .i64 s.state, .int .i64 s.code, .int .i64 s.til, .bool s.killed] 40)
  have n0 := heap_alloc_new W (.cells #[.int .i64 s.pid, .int .i64 s.parent, .int .i64 s.state, .int .i64 s.code, .int .i64 s.til, .bool s.killed] 40)
  obtain ⟨W1, hW1⟩ : ∃ x, W.alloc (.cells #[.int .i64 s.pid, .int .i64 s.parent, .int .i64 s.state, .int .i64 s.code, .int .i64 s.til, .bool s.killed] 40) = x := ⟨_, rfl⟩
  rw [hW1] at b0 n0
  have hc := (b0.cell (p := ⟨bp, 0, none⟩) (Nat.lt_of_lt_of_le hb hB.size)).trans ((hB.cell (p := ⟨bp, 0, none⟩) hb).trans h)
  have hc2 := (b0.cell (p := ⟨g, 2, none⟩) (Nat.lt_of_lt_of_le hg hB.size)).trans ((hB.cell (p := ⟨g, 2, none⟩) hg).trans h2)
  have x2 := cell_atT n0 2
  have x4 := cell_atT n0 4
  have HB0 := Lib.hid b0
  clear hB h h2 hb hg n0 b0
  obtain ⟨st, hst⟩ : ∃ x, s.state = x := ⟨_, rfl⟩
  obtain ⟨tl, htl⟩ : ∃ x, s.til = x := ⟨_, rfl⟩
  show Calls Try.prog 82 #[.agg #[.int .i64 s.pid, .int .i64 s.parent, .int .i64 s.state, .int .i64 s.code, .int .i64 s.til, .bool s.killed], .pointer (some ⟨bp, 0, none⟩)] W fun e w' => e = .returned (.bool (decide (s.state = 2) && decide (s.til ≤ now))) ∧ Below W.heap.size W w'
  rw [hst, htl] at hW1 ⊢
  have x2' : W1.cell? ⟨W.heap.size, 2, none⟩ = some (.int .i64 st) := by rw [← hst]; exact x2
  have x4' : W1.cell? ⟨W.heap.size, 4, none⟩ = some (.int .i64 tl) := by rw [← htl]; exact x4
  clear x2 x4 hst htl
  by_cases a1 : st = 2
  · have q1 : (st == 2) = true := by simpa using a1
    rw [decide_eq_true a1, Bool.true_and]
    have A1 := Lib.hid a1
    clear a1
    have p1 := cell_regrown hc
    have p2 := cell_regrown hc2
    have p3 := cell_regrown x2'
    have p4 := cell_regrown x4'
    go_enter Try.func82, Try.ntmps82
    go_wp2_with fail
    refine wp_region_quiet_below (by kernel_rfl) (by kernel_rfl) ?_
    repeat (go_big_quiet_step (fail))
    refine wpQuiet_nil (regrown_name fun w3 b3 => ?_)
    have HB3 := Lib.hid (below_next HB0.out b3)
    clear b3
    go_wp2
    go_ret
    first | exact ⟨rfl, HB3.out⟩ | exact ⟨by simp, HB3.out⟩
  · have q1 : (st == 2) = false := by simpa using a1
    rw [decide_eq_false a1, Bool.false_and]
    clear a1
    have p1 := cell_regrown hc
    have p2 := cell_regrown hc2
    have p3 := cell_regrown x2'
    have p4 := cell_regrown x4'
    go_enter Try.func82, Try.ntmps82
    go_wp2_with fail
    refine wp_region_quiet_below (by kernel_rfl) (by kernel_rfl) ?_
    repeat (go_big_quiet_step (fail))
    refine wpQuiet_nil (regrown_name fun w3 b3 => ?_)
    have HB3 := Lib.hid (below_next HB0.out b3)
    clear b3
    go_wp2
    go_ret
    exact ⟨rfl, HB3.out⟩
/-- The time is another one. -/
theorem table_now {B : Nat} {w : World} {g gs cap : Nat} {T : TabD} (h : IsTable B w g gs cap T) (x : Int) (h0 : 0 ≤ x) (h1 : x ≤ 1099511627776) :
    IsTable B (w.setCell ⟨g, 2, none⟩ (.int .i64 x)) g gs cap { T with now := x } ∧ w.grownBy (w.setCell ⟨g, 2, none⟩ (.int .i64 x)) (some g) := by
  have hg := grown_setCellT w ⟨g, 2, none⟩ (.int .i64 x)
  have n3 := heap_setCell_same w g 2 _ _ (.int .i64 x) h.1
  obtain ⟨o1, o2, o3, o4, _, _, o7⟩ := h.2.2.2
  exact ⟨⟨n3, h.2.1.kept hg (.inr (by intro e; exact h.apart (Option.some.inj e))), h.2.2.1, o1, o2, o3, o4, h0, h1, o7⟩, hg⟩
/-- Those of these Pids are awake. -/
def wokeL (ps : List Int) (l : List ProcD) : List ProcD := l.map fun s => if s.pid ∈ ps then wakeP s else s
theorem wokeL_get {ps : List Int} {l : List ProcD} {i : Nat} {s : ProcD} (h : l[i]? = some s) : (wokeL ps l)[i]? = some (if s.pid ∈ ps then wakeP s else s) := by unfold wokeL; rw [List.getElem?_map, h]; rfl
theorem woke_pid (ps : List Int) (s : ProcD) : (if s.pid ∈ ps then wakeP s else s).pid = s.pid := by split <;> rfl
theorem wokeL_len (ps : List Int) (l : List ProcD) : (wokeL ps l).length = l.length := by unfold wokeL; rw [List.length_map]
/-- Pids that stand once each are found where they stand. -/
theorem findI_nodup {l : List ProcD} (hnd : (pidsL l).Nodup) {i : Nat} {s : ProcD} (h : l[i]? = some s) : findI l s.pid = (i : Int) := by
  rcases firstT_or (pidB s.pid) l with ⟨_, h2⟩ | ⟨j, t, h1, h2, h3, _⟩
  · exact absurd (h2 s (List.mem_of_getElem? h)) (by unfold pidB; simp)
  · have e : t.pid = s.pid := of_decide_eq_true h3
    have hij : j = i := by
      have a1 : (pidsL l)[j]? = some s.pid := by unfold pidsL; rw [List.getElem?_map, h2, ← e]; rfl
      have a2 : (pidsL l)[i]? = some s.pid := by unfold pidsL; rw [List.getElem?_map, h]; rfl
      exact (List.getElem?_inj (List.getElem?_eq_some_iff.1 a1).1 hnd).1 (a1.trans a2.symm)
    rw [← hij]
    exact h1
theorem pidsL_woke (ps : List Int) (l : List ProcD) : pidsL (wokeL ps l) = pidsL l := by
  unfold pidsL wokeL
  rw [List.map_map]
  exact List.map_congr_left fun s _ => woke_pid ps s
/-- One more is awake. -/
theorem wokeL_snoc {ps : List Int} {l : List ProcD} (hnd : (pidsL l).Nodup) {i : Nat} {s : ProcD} (h : l[i]? = some s) (hp : s.pid ∉ ps) : (wokeL ps l).set i (wakeP (if s.pid ∈ ps then wakeP s else s)) = wokeL (ps ++ [s.pid]) l := by
  rw [if_neg hp]
  apply List.ext_getElem?
  intro j
  by_cases hj : i = j
  · subst hj
    rw [List.getElem?_set_self (by rw [wokeL_len]; exact (List.getElem?_eq_some_iff.1 h).1), wokeL_get h, if_pos (by simp)]
  · rw [List.getElem?_set_ne hj]
    cases ht : l[j]? with
    | none => unfold wokeL; rw [List.getElem?_map, List.getElem?_map, ht]; rfl
    | some t =>
      rw [wokeL_get ht, wokeL_get ht]
      have hne : t.pid ≠ s.pid := fun e => hj (by
        have a1 : (pidsL l)[j]? = some t.pid := by unfold pidsL; rw [List.getElem?_map, ht]; rfl
        have a2 : (pidsL l)[i]? = some s.pid := by unfold pidsL; rw [List.getElem?_map, h]; rfl
        exact ((List.getElem?_inj (List.getElem?_eq_some_iff.1 a2).1 hnd).1 (by rw [a1, a2, e])))
      have : (t.pid ∈ ps ++ [s.pid]) ↔ t.pid ∈ ps := by simp [hne]
      simp only [this]
theorem wokeL_due (now : Int) (l : List ProcD) (hnd : (pidsL l).Nodup) : wokeL (thoseL (dueB now) l) l = l.map fun s => if dueB now s then wakeP s else s := by
  unfold wokeL
  refine List.map_congr_left fun s hs => ?_
  have : (s.pid ∈ thoseL (dueB now) l) ↔ dueB now s = true := by
    unfold thoseL
    constructor
    · intro hm
      obtain ⟨t, ht, e⟩ := List.mem_map.1 hm
      obtain ⟨ht1, ht2⟩ := List.mem_filter.1 ht
      obtain ⟨i, hi⟩ := List.mem_iff_getElem?.1 ht1
      obtain ⟨j, hj⟩ := List.mem_iff_getElem?.1 hs
      have hij : i = j := by
        have a1 : (pidsL l)[i]? = some t.pid := by unfold pidsL; rw [List.getElem?_map, hi]; rfl
        have a2 : (pidsL l)[j]? = some s.pid := by unfold pidsL; rw [List.getElem?_map, hj]; rfl
        exact (List.getElem?_inj (List.getElem?_eq_some_iff.1 a1).1 hnd).1 (by rw [a1, a2, e])
      subst hij
      rw [hi] at hj
      cases hj
      exact ht2
    · intro hd
      exact List.mem_map.2 ⟨s, List.mem_filter.2 ⟨hs, hd⟩, rfl⟩
  simp only [this]
theorem thoseL_nodup {p : ProcD → Bool} {l : List ProcD} (hnd : (pidsL l).Nodup) : (thoseL p l).Nodup := by
  unfold thoseL pidsL at *
  exact hnd.sublist (List.Sublist.map _ (List.filter_sublist))
def tickT (T : TabD) (n : Int) : TabD := { T with now := afterT T.now n, list := T.list.map fun s => if dueB (afterT T.now n) s then wakeP s else s }
def TickPost (B : Nat) (w : World) (g gs cap : Nat) (T : TabD) (n : Int) (e : Ending) (w' : World) : Prop := ∃ v, e = .returned v ∧ OwnsV w.heap.size w' 3 v (intsV (thoseL (dueB (afterT T.now n)) T.list)) ∧ IsTable B w' g gs cap (tickT T n) ∧ TKeeps g gs w w'
set_option maxHeartbeats 1600000 in
theorem ttick_is {B : Nat} {w : World} {g gs cap : Nat} {T : TabD} (h : IsTable B w g gs cap T) (hnd : (pidsL T.list).Nodup) (n : Int) :
    Calls Try.prog 42 #[.pointer (some ⟨g, 0, none⟩), .int .i64 n] w (TickPost B w g gs cap T n) := by
  obtain ⟨_, _, _, o4, o5, o6, _⟩ := h.2.2.2
  have hnow : 0 ≤ afterT T.now n ∧ afterT T.now n ≤ 1099511627776 := by unfold afterT; omega
  have HA := Lib.hid (fun (W : World) (hW : Below w.heap.size w W) => tafter_is (h.below hW) n)
  have HTK : Hid (tickT T n = { T with now := afterT T.now n, list := wokeL (thoseL (dueB (afterT T.now n)) T.list) T.list }) := Lib.hid (by unfold tickT; rw [wokeL_due _ _ hnd])
  unfold TickPost
  rw [HTK.out]
  obtain ⟨now, hnw⟩ : ∃ x, afterT T.now n = x := ⟨_, rfl⟩
  rw [hnw] at HA hnow ⊢
  clear hnw HTK
  have HNOW := Lib.hid hnow
  have b0 := below_box w (.cells #[.pointer (some ⟨g, 0, none⟩)] 24)
  have n0 := heap_alloc_new w (.cells #[.pointer (some ⟨g, 0, none⟩)] 24)
  obtain ⟨bp, hbp⟩ : ∃ x, w.heap.size = x := ⟨_, rfl⟩
  obtain ⟨w1, hw1⟩ : ∃ x, w.alloc (.cells #[.pointer (some ⟨g, 0, none⟩)] 24) = x := ⟨_, rfl⟩
  rw [hw1] at b0 n0
  rw [hbp] at n0
  have H1 := Lib.hid (h.below b0)
  have HB1 := Lib.hid b0
  have HN1 := Lib.hid n0
  have HBP := Lib.hid hbp
  have HND := Lib.hid hnd
  have HLT := Lib.hid (table_lt h)
  have HO4 := Lib.hid o4
  clear h b0 n0 hnd hnow o4 o5 o6
  go_enter Try.func42, Try.ntmps42
  go_wp2_with fail
  try rw [hw1]
  clear hw1
  have x0 : w1.drew.cell? ⟨bp, 0, none⟩ = some (.pointer (some ⟨g, 0, none⟩)) := cell_atT (w := w1) HN1.out 0
  refine wp_region_held_drew (S := fun W => W.cell? ⟨bp, 0, none⟩ = some (.pointer (some ⟨g, 0, none⟩))) (by kernel_rfl) x0 (fun hHeld => ?_)
  have HB2 := Lib.hid (below_next HB1.out (below_drew w1))
  have HN2 : Hid (w1.drew.heap[bp]? = some (.cells #[.pointer (some ⟨g, 0, none⟩)] 24 (0, 0))) := Lib.hid HN1.out
  have H2 := Lib.hid (H1.out.below (below_drew w1))
  clear x0 HN1 H1 HB1
  generalize w1.drew = w2 at *
  refine wpAnyH_take (i := 0) (v := .pointer (some ⟨g, 0, none⟩)) rfl (by kernel_rfl) (by kernel_rfl) (by kernel_rfl) (fun _ _ _ h => h) (Or.inl ⟨by rfl, by intro W hSw; go_simp⟩) (by assumption) ?_
  try simp only [List.getElem_toArray, List.getElem_cons_zero, List.getElem_cons_succ, Act.put, List.setIfInBounds_toArray, List.set_cons_zero, List.set_cons_succ]
  refine wpAnyH_take (i := 1) (v := .pointer (some ⟨g, 0, none⟩)) rfl (by kernel_rfl) (by kernel_rfl) (by kernel_rfl) (fun _ _ _ h => h) (Or.inl ⟨by rfl, by intro W hSw; go_simp⟩) (by assumption) ?_
  try simp only [List.getElem_toArray, List.getElem_cons_zero, List.getElem_cons_succ, Act.put, List.setIfInBounds_toArray, List.set_cons_zero, List.set_cons_succ]
  refine wpAnyH_take (i := 2) (v := .int .i64 n) rfl (by kernel_rfl) (by kernel_rfl) (by kernel_rfl) (fun _ _ _ h => h) (Or.inl ⟨by rfl, by intro W hSw; clear hSw; go_simp⟩) (by assumption) ?_
  try simp only [List.getElem_toArray, List.getElem_cons_zero, List.getElem_cons_succ, Act.put, List.setIfInBounds_toArray, List.set_cons_zero, List.set_cons_succ]
  refine wpAnyH_ready (rs := [3]) (by kernel_rfl) (by simp) ?_
  refine AllReadyH.cons rfl (fun KK hKK => ?_) AllReadyH.nil
  go_simp
  refine (HA.out w2 HB2.out).mono ?_
  rintro e w3 ⟨rfl, b3⟩
  have n3 := (b3.block bp (Array.getElem?_eq_some_iff.1 HN2.out).1).trans HN2.out
  have H3 := Lib.hid (H2.out.below b3)
  have HB3 := Lib.hid (below_next HB2.out b3)
  have HN3 := Lib.hid n3
  dsimp only
  refine hKK.out _ _ (cell_atT n3 0) (fun hH3 => ?_)
  clear hKK KK b3 n3 H2 HB2 HN2
  try simp only [List.getElem_toArray, List.getElem_cons_zero, List.getElem_cons_succ, Act.put, List.setIfInBounds_toArray, List.set_cons_zero, List.set_cons_succ]
  refine wpAnyH_take (i := 4) (v := .pointer (some ⟨g, 0, none⟩)) rfl (by kernel_rfl) (by kernel_rfl) (by kernel_rfl) (fun _ _ _ h => h) (Or.inl ⟨by rfl, by intro W hSw; clear hSw; go_simp⟩) (by assumption) ?_
  try simp only [List.getElem_toArray, List.getElem_cons_zero, List.getElem_cons_succ, Act.put, List.setIfInBounds_toArray, List.set_cons_zero, List.set_cons_succ]
  refine wpAnyH_take (i := 5) (v := .pointer (some ⟨g, 2, none⟩)) rfl (by kernel_rfl) (by kernel_rfl) (by kernel_rfl) (fun _ _ _ h => h) (Or.inl ⟨by rfl, by intro W hSw; clear hSw; go_simp⟩) (by assumption) ?_
  try simp only [List.getElem_toArray, List.getElem_cons_zero, List.getElem_cons_succ, Act.put, List.setIfInBounds_toArray, List.set_cons_zero, List.set_cons_succ]
  have c2 := (table_facts H3.out).2.2.1
  have f2 := frozen_atT H3.out.1 2
  have s4 := table_now H3.out now HNOW.out.1 HNOW.out.2
  have hne : bp ≠ g := by have := HBP.out; have := HLT.out.1; omega
  have n4 := (s4.2.block bp (Array.getElem?_eq_some_iff.1 HN3.out).1 (by intro e; exact hne (Option.some.inj e))).trans HN3.out
  obtain ⟨w4, hw4⟩ : ∃ x, w3.setCell ⟨g, 2, none⟩ (.int .i64 now) = x := ⟨_, rfl⟩
  rw [hw4] at s4 n4
  refine wpAnyH_ready (rs := [6]) (by kernel_rfl) (by simp) ?_
  refine AllReadyH.cons rfl (fun KK hKK => ?_) AllReadyH.nil
  go_simp
  refine hKK.out _ _ (cell_atT n4 0) (fun hH4 => ?_)
  clear hKK KK c2 f2
  try simp only [List.getElem_toArray, List.getElem_cons_zero, List.getElem_cons_succ, Act.put, List.setIfInBounds_toArray, List.set_cons_zero, List.set_cons_succ]
  refine wpAnyH_done (by kernel_rfl) ?_ _
  have H4 := Lib.hid s4.1
  have HG4 := Lib.hid s4.2
  have x4 := cell_atT n4 0
  have HTH := Lib.hid (those_is H4.out (dueB now) 82 #[.pointer (some ⟨bp, 0, none⟩)] enters_tick1 (due_pred (Array.getElem?_eq_some_iff.1 n4).1 (table_lt H4.out).1 x4 (table_facts H4.out).2.2.1))
  have HN4 := Lib.hid n4
  clear s4 hw4 hHeld hH3 hH4 n4
  go_wp2_with fail
  refine HTH.out.mono ?_
  rintro e w5 ⟨v, rfl, ho5, b5⟩
  have HO5 := Lib.hid ho5
  have H5 := Lib.hid (H4.out.below b5)
  have HG5 : Hid (TKeeps g gs w w5) := Lib.hid ((((TKeeps.of_below HB3.out)).trans (.of_g HG4.out)).trans (.of_below b5))
  have x5 := (cell_atT ((b5.block bp (Array.getElem?_eq_some_iff.1 HN4.out).1).trans HN4.out) 0)
  have HX5 := Lib.hid (show w5.heap[bp]? = _ from (b5.block bp (Array.getElem?_eq_some_iff.1 HN4.out).1).trans HN4.out)
  have HSZ : Hid (w.heap.size ≤ w4.heap.size ∧ gs < w4.heap.size) := Lib.hid ⟨by have h1 := HG4.out.size; have h2 := HB3.out.size; omega, (table_lt H4.out).2.1⟩
  clear ho5 b5 x4
  obtain ⟨va, vc, rfl, hv, _, _⟩ := HO5.out.reads
  obtain ⟨ps, hps⟩ : ∃ x, thoseL (dueB now) T.list = x := ⟨_, rfl⟩
  have hps' : thoseL (dueB now) ({ T with now := now } : TabD).list = ps := hps
  have HPS := Lib.hid hps
  rw [hps'] at HO5 hv ⊢
  obtain ⟨m, hm⟩ : ∃ x, (intsV ps).length = x := ⟨_, rfl⟩
  rw [hm] at hv HO5 ⊢
  have HV := Lib.hid hv
  have HM : Hid (ps.length = m) := Lib.hid (by rw [← hm, intsV_length])
  have hm16 : m ≤ 16 := by
    have h1 := thoseL_length (dueB now) T.list T.list.length
    rw [List.take_length, hps, HM.out] at h1
    have h2 := HO4.out
    omega
  have HPN : Hid (ps.Nodup) := Lib.hid (by rw [← hps]; exact thoseL_nodup HND.out)
  clear hv hm hps hps' x5
  go_wp2_with fail
  go_loopw [21] (fun i wr => ∃ j : Nat, i = .int .i64 (j : Int) ∧ j ≤ m ∧ Hid (IsTable B wr g gs cap { T with now := now, list := wokeL (ps.take j) T.list }) ∧ Hid (w5.grownBy wr (some gs))) (fun i _ => m - (intOf i).toNat)
  case atStart => exact ⟨0, rfl, Nat.zero_le _, Lib.hid (by have e : wokeL (ps.take 0) T.list = T.list := (by unfold wokeL; simp); rw [e]; exact H5.out), Lib.hid (grown_same _ _)⟩
  case round =>
    obtain ⟨j, rfl, hj, HT, HG⟩ := hrel
    by_cases hlt : j < m
    · obtain ⟨pd, hpd⟩ : ∃ x, ps[j]? = some x := ⟨_, List.getElem?_eq_getElem (by rw [HM.out]; exact hlt)⟩
      obtain ⟨gv, off, rfl, hgv, hcell⟩ := HV.out.at (i := j) (u := .int .i64 pd) (by unfold intsV; rw [List.getElem?_map, hpd]; rfl)
      have hgne : gv ≠ gs := by
        intro e
        obtain ⟨g9, c9, hx9, hb9⟩ : ∃ g9 c9, (Value.slice (some ⟨gv, off, none⟩) m vc) = .slice (some ⟨g9, 0, none⟩) m c9 ∧ w4.heap.size ≤ g9 := by
          rcases HO5.out.head with ⟨h1, _⟩ | ⟨g9, c9, h1, h2, _⟩
          · cases h1
          · exact ⟨g9, vc, by cases h1; rfl, h2⟩
        cases hx9
        have := HSZ.out.2
        omega
      have hc : wr.cell? ⟨gv, off + j, none⟩ = some (.int .i64 pd) := (World.cell?_of_block (a := ⟨gv, off + j, none⟩) (HG.out.block gv hgv (fun e => hgne (Option.some.inj e)))).trans hcell
      obtain ⟨s, hs, hsp⟩ : ∃ s ∈ T.list, s.pid = pd := by
        have hm := List.mem_of_getElem? hpd
        rw [← HPS.out] at hm
        unfold thoseL at hm
        obtain ⟨s, hs, e⟩ := List.mem_map.1 hm
        exact ⟨s, (List.mem_filter.1 hs).1, e⟩
      obtain ⟨i, hi⟩ := List.mem_iff_getElem?.1 hs
      have hnp : s.pid ∉ ps.take j := by
        rw [hsp]
        intro hmem
        obtain ⟨q, hq⟩ := List.mem_iff_getElem?.1 hmem
        rw [List.getElem?_take] at hq
        split at hq
        · rename_i hqj
          have := (List.getElem?_inj (List.getElem?_eq_some_iff.1 hq).1 HPN.out).1 (hq.trans hpd.symm)
          omega
        · cases hq
      have hwi := wokeL_get (ps := ps.take j) hi
      have hfi : findI (wokeL (ps.take j) T.list) pd = (i : Int) := by
        have := findI_nodup (by rw [pidsL_woke]; exact HND.out) hwi
        rwa [woke_pid, hsp] at this
      have HF := Lib.hid (tfind_yes HT.out pd i _ hfi hwi)
      have HW := Lib.hid (fun (W : World) (hW : Below wr.heap.size wr W) => wake_is (HT.out.below hW) hwi)
      have HNX : Hid ((wokeL (ps.take j) T.list).set i (wakeP (if s.pid ∈ ps.take j then wakeP s else s)) = wokeL (ps.take (j + 1)) T.list) := Lib.hid (by rw [wokeL_snoc HND.out hi hnp, hsp, List.take_add_one, hpd]; rfl)
      dsimp only at HW
      rw [HNX.out] at HW
      have hx5 : wr.cell? ⟨bp, 0, none⟩ = some (.pointer (some ⟨g, 0, none⟩)) := (World.cell?_of_block (a := ⟨bp, 0, none⟩) (HG.out.block bp (Array.getElem?_eq_some_iff.1 HX5.out).1 (fun e => by have := Option.some.inj e; have := HBP.out; have := HLT.out.2.1; omega))).trans (cell_atT HX5.out 0)
      have hj0 : (0 : Int) ≤ (j : Int) := by omega
      have hj1 : (j : Int) < (m : Int) := by omega
      have HLTT := Lib.hid hlt
      clear hpd hgv hcell hgne hs hsp hi hnp hwi hfi hlt
      go_wp2_with fail
      refine HF.out.mono ?_
      rintro e w6 ⟨rfl, b6⟩
      have HB6 := Lib.hid b6
      clear b6 hc hx5
      go_wp2_with fail
      refine (HW.out w6 HB6.out).mono ?_
      rintro e w7 ⟨rfl, ht7, hg7⟩
      have HT7 := Lib.hid ht7
      have HG7 := Lib.hid (grown_transT (grown_transT HG.out (grown_ofBelowT HB6.out)) hg7)
      clear ht7 hg7
      go_wp2
      have h1 := HLTT.out
      go_roundw
      case rel => exact ⟨j + 1, by go_num, h1, HT7, HG7⟩
      case measure => simp [intOf]; omega
    · have hjm : j = m := Nat.le_antisymm hj (Nat.le_of_not_lt hlt)
      subst hjm
      have hj1 : ¬ (j : Int) < (j : Int) := Int.lt_irrefl _
      have HO9 : Hid (OwnsV w.heap.size wr 3 (.slice va j vc) (intsV ps)) := Lib.hid ((HO5.out.kept HG.out (by
        rcases hvb : (Value.slice va j vc).ownBlock with _ | k
        · exact .inl rfl
        · right
          intro e
          have h1 := (HO5.out.lt k hvb).1
          have h2 := HSZ.out.2
          have := Option.some.inj e
          omega)).less HSZ.out.1)
      clear hlt
      go_wp2
      go_ret
      rw [HPS.out]
      have ho9 := HO9.out
      rw [HBP.out] at ho9
      refine ⟨_, rfl, ho9, ?_, HG5.out.trans (.of_gs HG.out)⟩
      have := HT.out
      rw [List.take_of_length_le (by rw [HM.out]; exact Nat.le_refl _)] at this
      exact this
end Go.Proofs.Ytebkkbmplndcpaa
