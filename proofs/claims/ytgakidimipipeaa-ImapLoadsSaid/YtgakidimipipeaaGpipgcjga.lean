/- (*Map).Sectors, walked. -/
import Derived.Test.YtgakidimipipeaaGcehceboc
import Derived.Test.YtgakidimipipeaaGimofmdpf
namespace Go.Proofs.Ytgakidimipipeaa
open Go.RowKit Go.Sort
set_option linter.unusedVariables false
set_option linter.unusedSimpArgs false
set_option maxRecDepth 100000
attribute [local go_sem] Oper.semAt_some

/-- Some rows of a slice, from one on. -/
theorem ReadsR.partAt {w : World} {gs off : Nat} {l : List (List Value)} (h : ReadsR w (some ⟨gs, off, none⟩) 4 l) (i m : Nat) : ReadsR w (some ⟨gs, off + i * 4, none⟩) 4 ((l.drop i).take m) := by
  have h1 : ∀ p ∈ (l.drop i).take m, p.length = 4 := fun p hp => h.1 p (List.mem_of_mem_drop (List.mem_of_mem_take hp))
  refine ⟨h1, ?_⟩
  by_cases hl : (l.drop i).take m = []
  · exact .inl hl
  right
  have hb : gs < w.heap.size := by
    rcases h.2 with rfl | ⟨b, off, e, hb, _⟩
    · simp at hl
    · simp only [Option.some.injEq, Addr.mk.injEq] at e
      rw [e.1]; exact hb
  refine ⟨gs, off + i * 4, rfl, hb, fun j u hj => ?_⟩
  have hlt := (List.getElem?_eq_some_iff.1 hj).1
  rw [flatR_length h1] at hlt
  have ha : j / 4 < ((l.drop i).take m).length := by omega
  obtain ⟨r, hr⟩ : ∃ r, ((l.drop i).take m)[j / 4]? = some r := ⟨_, List.getElem?_eq_getElem ha⟩
  have hj2 : j = j / 4 * 4 + j % 4 := by omega
  rw [hj2, flatR_get h1 hr (by omega)] at hj
  have ha2 : j / 4 < m := by rw [List.length_take] at ha; omega
  rw [List.getElem?_take, if_pos ha2, List.getElem?_drop] at hr
  obtain ⟨b, off, e, _, hc⟩ := h.row hr
  simp only [Option.some.injEq, Addr.mk.injEq, and_true] at e
  obtain ⟨rfl, rfl⟩ := e
  have h3 := hc _ u hj
  have e3 : ∀ o : Nat, o + i * 4 + j = o + ((i + j / 4) * 4 + j % 4) := fun o => by omega
  rw [e3]
  exact h3
theorem ReadsR.part {w : World} {gs : Nat} {l : List (List Value)} (h : ReadsR w (some ⟨gs, 0, none⟩) 4 l) (i m : Nat) : ReadsR w (some ⟨gs, i * 4, none⟩) 4 ((l.drop i).take m) := by
  have := h.partAt i m
  rwa [Nat.zero_add] at this
theorem fldS_row (s : SlotD) : rowV (fldS s) = slotV s := rfl
theorem fldS_ok {s : SlotD} (h : SlotOk s) : IsFSlot (fldS s) := by
  obtain ⟨h1, h2, h3, h4, h5, h6, h7, h8⟩ := h
  exact ⟨s.place, s.version, s.links, s.kind, rfl, by unfold I64; omega, ⟨h3, h4⟩, by unfold I64; omega, by unfold I64; omega⟩
theorem fldS_rows (sl : List SlotD) (i m : Nat) : (((sl.drop i).take m).map fldS).map rowV = ((slotsV sl).drop i).take m := by
  unfold slotsV
  rw [List.map_map, List.map_take, List.map_drop]
  rfl
theorem secM_len {sl : List SlotD} (h : ∀ s ∈ sl, SlotOk s) (k : Nat) : (secM sl k).length = 128 := writeSlot_length (by
  intro y hy
  obtain ⟨s, hs, rfl⟩ := List.mem_map.1 hy
  exact fldS_ok (h s (List.mem_of_mem_drop (List.mem_of_mem_take hs))))
theorem secsM_rows {sl : List SlotD} (h : ∀ k, (secM sl k).length = 128) (ks : List Nat) : ∀ p ∈ secsM sl ks, p.length = 128 := by
  intro p hp
  obtain ⟨k, _, rfl⟩ := List.mem_map.1 hp
  rw [Array.length_toList, cells_size, h]
theorem secsM_len {sl : List SlotD} (ks : List (SpotC (tens sl.length))) : (secsM sl (ks.map (·.1))).length = ks.length := by unfold secsM; rw [List.length_map, List.length_map]
theorem cells_getD {S : List Nat} (h : S.length = 128) {j : Nat} (hj : j < 128) : (cells S)[j]? = some (byteV (S.getD j 0)) := by
  unfold cells
  rw [List.getElem?_toArray, List.getElem?_map, List.getElem?_eq_getElem (by omega)]
  simp [List.getD, List.getElem?_eq_getElem (show j < S.length by omega)]
theorem cells_onecell {S : List Nat} {u : Value} (hu : u ∈ (cells S).toList) : u.oneCell' = true := by
  have := cells_one S
  rw [Array.all_eq_true'] at this
  exact this u (by simpa using hu)
set_option maxHeartbeats 1200000 in
theorem msectors_is {B : Nat} {w : World} {g gs : Nat} {sl : List SlotD} (h : IsMap B w g gs sl) : Calls Try.prog 13 #[.pointer (some ⟨g, 0, none⟩)] w fun e w' => ∃ v, e = .returned v ∧
    w'.ownsRow w.heap.size 41 128 v (tens sl.length) (flatR (secsM sl (List.range (tens sl.length)))) ∧ Below w.heap.size w w' := by
  have c0 := map_facts h
  have hlen := h.2.2.2.2.1
  have hlen1 := h.2.2.2.1
  have hgl := (map_lt h).1
  have HH := Lib.hid h
  refine (callsIn_wide (n := 5)).1 ?_
  refine callsIn_of_wp_marks Try.func13 rfl trivial ?_ rfl
  simp only [Try.ntmps13, List.size_toArray, List.length_cons, List.length_nil, Nat.reduceAdd, Nat.reduceSub, Array.replicate_succ, Array.replicate_zero, List.push_toArray, List.append_toArray, List.nil_append, List.cons_append]
  have bL := below_box w (.cells #[.slice none 0 0] 36)
  have nL := heap_alloc_new w (.cells #[.slice none 0 0] 36)
  have c1 := (bL.cell (p := ⟨g, 0, none⟩) hgl).trans c0
  obtain ⟨N, hN⟩ : ∃ N, sl.length = N := ⟨_, rfl⟩
  rw [hN] at c0 c1 hlen hlen1
  have HN := Lib.hid hN
  have HLN := Lib.hid (And.intro hlen hlen1)
  clear h hN hlen hlen1
  gi_wp2_with fail
  refine ⟨trivial, ?_⟩
  refine (chunk_in _ gs N _).mono ?_
  rintro e w1 ⟨rfl, rfl⟩
  gi_wp2_with fail
  obtain ⟨W0, hW0⟩ : ∃ W0, w.alloc (.cells #[.slice none 0 0] 36) = W0 := ⟨_, rfl⟩
  have s0 : W0.heap.size = w.heap.size + 1 := by rw [← hW0]; simp
  rw [hW0] at bL nL ⊢
  have b1 := below_box W0 (.cells #[.slice (some ⟨gs, 0, none⟩) N N] 24)
  have n1 := heap_alloc_new W0 (.cells #[.slice (some ⟨gs, 0, none⟩) N N] 24)
  obtain ⟨W2, hW2⟩ : ∃ W2, W0.alloc (.cells #[.slice (some ⟨gs, 0, none⟩) N N] 24) = W2 := ⟨_, rfl⟩
  have s2 : W2.heap.size = w.heap.size + 2 := by rw [← hW2]; simp [s0]
  rw [hW2] at b1 n1 ⊢
  have b2 := below_box W2 (.cells #[.int .i64 10] 3)
  have n2 := heap_alloc_new W2 (.cells #[.int .i64 10] 3)
  obtain ⟨W1, hW1⟩ : ∃ W1, W2.alloc (.cells #[.int .i64 10] 3) = W1 := ⟨_, rfl⟩
  have s1 : W1.heap.size = w.heap.size + 3 := by rw [← hW1]; simp [s2]
  rw [hW1] at b2 n2 ⊢
  rw [s0] at n1
  rw [s2] at n2
  have m0 : W1.heap[w.heap.size]? = some (.cells #[.slice none 0 0] 36 (0, 0)) := (b2.block w.heap.size (by omega)).trans ((b1.block w.heap.size (by omega)).trans nL)
  have m1 : W1.heap[w.heap.size + 1]? = some (.cells #[.slice (some ⟨gs, 0, none⟩) N N] 24 (0, 0)) := (b2.block (w.heap.size + 1) (by omega)).trans n1
  have k1 : W1.cell? ⟨w.heap.size + 1, 0, none⟩ = some (.slice (some ⟨gs, 0, none⟩) N N) := by unfold World.cell?; rw [m1]; rfl
  have k2 : W1.cell? ⟨w.heap.size + 1 + 1, 0, none⟩ = some (.int .i64 10) := by unfold World.cell?; rw [n2]; rfl
  have bB : Below w.heap.size w W1 := below_next (below_next bL b1) b2
  have HM1 : Hid (Boxed W1 (w.heap.size + 1) 24 (.slice (some ⟨gs, 0, none⟩) N N)) := Lib.hid m1
  have HM2 : Hid (Boxed W1 (w.heap.size + 1 + 1) 3 (.int .i64 10)) := Lib.hid n2
  clear hW0 hW1 hW2 bL b1 b2 n1 n2 nL m1 s0 s2 c0 c1
  obtain rfl := HN.out
  have HS := Lib.hid s1
  refine wpIn_rangeFunc_ownG rfl (by omega) (gf := 97) (lb := #[.pointer (some ⟨w.heap.size + 1, 0, none⟩), .pointer (some ⟨w.heap.size + 1 + 1, 0, none⟩)]) rfl trivial (enters_of Try.func97 (by kernel_rfl) rfl)
    (chunk_stops _ (by omega) (w.heap.size + 1) (w.heap.size + 1 + 1) gs sl.length HLN.out.2 HLN.out.1 W1 (by omega) (by omega) k1 k2) Keep2.trans (keep2_b (by omega) (by omega)) (Below.refl _ _) (fun _ => rfl)
    (SecI sl w gs) (fun _ _ _ => False)
    (OwnFrom.and (Own.from (holdsRow_own' sl w) _) (OwnFrom.and (ownFrom_below (Nat.le_refl _) (by omega)) (OwnFrom.and (Own.from (boxed_own (w.heap.size + 1) 24 (fun _ => .slice (some ⟨gs, 0, none⟩) sl.length sl.length)) _) (Own.from (boxed_own (w.heap.size + 1 + 1) 3 (fun _ => .int .i64 10)) _))))
    (fun c => Own.from (fun s A B row hs hg hr => hs) _)
    ⟨⟨_, m0, World.ownsRow_nil _ _ _ _⟩, bB, HM1.out, HM2.out⟩
    (fun x => { tmps := #[.pointer (some ⟨g, 0, none⟩), undef, .slice none 0 0, .pointer (some ⟨w.heap.size, 0, none⟩), .slice (some ⟨gs, x.1 * 10 * 4, none⟩) (min 10 (sl.length - x.1 * 10)) (min 10 (sl.length - x.1 * 10)), undef, undef,
          .pointer (some ⟨g, 0, none⟩), .pointer (some ⟨g, 0, none⟩), .pointer (some ⟨g, 0, none⟩), .slice (some ⟨gs, 0, none⟩) sl.length sl.length,
          .func (.func 97) #[] #[.pointer (some ⟨w.heap.size + 1, 0, none⟩), .pointer (some ⟨w.heap.size + 1 + 1, 0, none⟩)],
          .slice (some ⟨gs, x.1 * 10 * 4, none⟩) (min 10 (sl.length - x.1 * 10)) (min 10 (sl.length - x.1 * 10)), undef, undef, undef, undef, undef, undef, undef, undef, undef, undef], defers := [] }) ?assign ?body ?done ?stop
  case assign =>
    intro l x W K hK
    dsimp only [encC]
    gi_wp2
    exact hK
  case body =>
    rintro l pre x W ⟨⟨v, hv, hr⟩, hB, hq1, hq2⟩ hpl
    have hx := x.2
    obtain ⟨k, hk⟩ : ∃ k, x.1 = k := ⟨_, rfl⟩
    have hN2 := HLN.out.1
    have hkn : k * 10 < sl.length := by rw [hk] at hx; unfold tens at hx; omega
    have hpl2 : pre.length < 21 := by have : tens sl.length ≤ 20 := by unfold tens; omega
                                      omega
    obtain ⟨L, hL⟩ : ∃ L, ((sl.drop (k * 10)).take 10).map fldS = L := ⟨_, rfl⟩
    obtain ⟨q, hq⟩ : ∃ q, min 10 (sl.length - k * 10) = q := ⟨_, rfl⟩
    have hLq : L.length = q := by rw [← hL, List.length_map, List.length_take, List.length_drop, hq]
    have hRL : ReadsR W (some ⟨gs, k * 10 * 4, none⟩) 4 (L.map rowV) := by
      rw [← hL, fldS_rows]
      exact ((map_reads HH.out).below hB).part (k * 10) 10
    have hLF : ∀ y ∈ L, IsFSlot y := by
      rw [← hL]
      intro y hy
      obtain ⟨s, hs, rfl⟩ := List.mem_map.1 hy
      exact fldS_ok (HH.out.2.2.2.2.2 s (List.mem_of_mem_drop (List.mem_of_mem_take hs)))
    have hws := writeSlots_is L hLF (some ⟨gs, k * 10 * 4, none⟩) q hRL
    rw [hLq] at hws
    have hS8 := writeSlot_length hLF
    have hsm : secM sl k = (writeSlot L).1 := by unfold secM; rw [hL]
    obtain ⟨S, hS⟩ : ∃ S, (writeSlot L).1 = S := ⟨_, rfl⟩
    obtain ⟨er, her⟩ : ∃ er, (writeSlot L).2 = er := ⟨_, rfl⟩
    rw [hS, her] at hws
    rw [hS] at hS8 hsm
    have HS8L : Hid (∀ k, (secM sl k).length = 128) := Lib.hid (secM_len (fun s hs => HH.out.2.2.2.2.2 s hs))
    have HWS := Lib.hid hws
    have HSM := Lib.hid hsm
    have HB := Lib.hid hB
    have HXK := Lib.hid hk
    have HV := Lib.hid hv
    have HR := Lib.hid hr
    have HQ1 := Lib.hid hq1
    have HQ2 := Lib.hid hq2
    have HS8 := Lib.hid hS8
    simp only [hk, hq]
    clear hRL hLF hws hL hLq hq hS her hkn hx hN2 hsm hB hk hv hr hq1 hq2 hS8
    refine wpIn_block ?_
    refine wpIn_seq ?_
    refine wpIn_region_round (by kernel_rfl) ?_
    intro K hK
    have hz := zero_sector
    have HKK := Lib.hid hK
    clear hK
    go_wp2_with fail
    refine HWS.out.mono ?_
    rintro e W3 ⟨rfl, hb⟩
    have g3 := grown_noneM hb
    have hv3 := HV.out.kept g3 (fun e => by cases e)
    have hq3 := HQ1.out.kept g3 (fun e => by cases e)
    have hp3 := HQ2.out.kept g3 (fun e => by cases e)
    have hr3 : OwnsR' w.heap.size W3 41 128 v (secsM sl (pre.map (·.1))) := ⟨secsM_rows HS8L.out _, by rw [secsM_len]; exact HR.out.kept g3 (by by_cases hvb : v.ownBlock = none; exact .inl hvb; exact .inr hvb)⟩
    have hBW : Below w.heap.size w W3 := HB.out.trans (hb.mono HB.out.size)
    have hsz3 : w.heap.size ≤ W3.heap.size := hBW.size
    have HK3 : Hid (KeepsFrom W1.heap.size W W3) := by show _; exact KeepsFrom.of_grownBy g3 (fun j e => by cases e)
    have nS := heap_alloc_new W3 (.cells (cells noughts) 41)
    have eS := World.setRow_alloc_new W3 (cells noughts) (cells S) 41
    have nS2 := heap_alloc_new W3 (.cells (cells S) 41)
    have hv4 := hv3.alloc (.cells (cells S) 41)
    have hq4 := hq3.alloc (.cells (cells S) 41)
    have hp4 := hp3.alloc (.cells (cells S) 41)
    have hr4 := hr3.alloc (.cells (cells S) 41)
    have hB4 := hBW.alloc hsz3 (.cells (cells S) 41)
    have K4 : KeepsFrom W1.heap.size W (W3.alloc (.cells (cells S) 41)) := HK3.out.trans ((KeepsOthers.alloc W3 _).from _)
    obtain ⟨W4, hW4⟩ : ∃ W4, W3.alloc (.cells (cells S) 41) = W4 := ⟨_, rfl⟩
    have s4 : W4.heap.size = W3.heap.size + 1 := by rw [← hW4]; simp
    rw [hW4] at eS nS2 hv4 hr4 hq4 hp4 hB4 K4
    clear hb g3 hv3 hq3 hp3 hr3 hBW HK3 hW4
    have HV4 := Lib.hid hv4
    have HQ4 := Lib.hid hq4
    have HP4 := Lib.hid hp4
    have HR4 := Lib.hid hr4
    have HB4 := Lib.hid hB4
    have HK4 := Lib.hid K4
    have HS4 := Lib.hid s4
    have HSZ := Lib.hid hsz3
    clear hv4 hq4 hp4 hr4 hB4 K4 s4 hsz3
    go_wp2_with (refine wpList_store_sector rfl _ _ rfl W3.heap.size S rfl rfl HS8.out 41 _ nS rfl ?_; rw [eS])
    refine HKK.out _ _ ?_
    clear HKK nS eS hz HWS
    clear K
    refine wpIn_region_round (by kernel_rfl) ?_
    intro K hK
    have HKK := Lib.hid hK
    clear hK
    have cv := HV4.out.cell
    have hld : ∀ j, j < 128 → W4.cell? ⟨W3.heap.size, 0 + j, none⟩ = some (byteV (S.getD j 0)) := fun j hj => by
      rw [Nat.zero_add]
      exact (cell_of_row nS2 j).trans (cells_getD HS8.out hj)
    have HLD := Lib.hid hld
    have HO5 := Lib.hid (HR4.out.alloc (.cells (cells S) 41))
    have n5 := heap_alloc_new W4 (.cells (cells S) 41)
    have hrow : ∀ j u, ((cells S).toList)[j]? = some u → (W4.alloc (.cells (cells S) 41)).cell? ⟨W4.heap.size, j, none⟩ = some u := fun j u hu => (cell_of_row n5 j).trans (by rw [← Array.getElem?_toList]; exact hu)
    have HROW := Lib.hid hrow
    have HLL : Hid ((secsM sl (pre.map (·.1))).length ≤ 20) := Lib.hid (by rw [secsM_len]; omega)
    have hS8l : (cells S).toList.length = 128 := by rw [Array.length_toList, cells_size, HS8.out]
    have HS8T := Lib.hid hS8l
    have HLE : Hid (w.heap.size ≤ (W4.alloc (.cells (cells S) 41)).heap.size) := Lib.hid (by have := HS4.out; have := HSZ.out; simp; omega)
    clear hld n5 hrow nS2 hS8l
    have HSZ4 : Hid (w.heap.size ≤ W4.heap.size) := Lib.hid (by have := HS4.out; have := HSZ.out; omega)
    have HQ5 := Lib.hid (HQ4.out.alloc (.cells (cells S) 41))
    have HP5 := Lib.hid (HP4.out.alloc (.cells (cells S) 41))
    go_wp2_with (first
      | (refine wpList_load_sector rfl _ rfl W3.heap.size 0 S rfl HS8.out HLD.out ?_)
      | (refine wpList_slice_sector rfl _ rfl S rfl HS8.out ?_)
      | (at_builtin; refine wpList_append_row_at rfl _ _ _ rfl w.heap.size 41 _ 128 128 Try.underlying36 sec_info rfl (by decide) v _ rfl HO5.out W4.heap.size 1 (cells S).toList rfl HS8T.out HROW.out (fun u hu => cells_onecell hu) (by have := HLL.out; omega) (by have := HLL.out; unfold maxLen; omega) HLE.out ?_; intro v5 w5 o5 g5 _; have BA := Boxed.appended HV4.out (by decide) HR4.out.2 HSZ4.out (Nat.le_refl _) o5.2 g5; have cb := BA.1.cell; have fb := BA.1.frozen; have hrd := o5.reads; obtain ⟨n5, hn5⟩ : ∃ n, (secsM sl (pre.map (·.1)) ++ [(cells S).toList]).length = n := ⟨_, rfl⟩; rw [hn5] at hrd; have HN5 := Lib.hid hn5; have NB := Lib.hid BA.2; have HQ6 := Lib.hid ((HQ5.out.kept g5 (HQ5.out.not_row (by decide) HO5.out.2)).other (B' := w.heap.size) (by omega) v5); have HP6 := Lib.hid ((HP5.out.kept g5 (HP5.out.not_row (by decide) HO5.out.2)).other (B' := w.heap.size) (by omega) v5); clear BA hn5 o5 g5; obtain ⟨a5, c5, rfl, -, -⟩ := hrd))
    refine HKK.out _ _ ?_
    have e1 : secsM sl ((pre ++ [x]).map (·.1)) = secsM sl (pre.map (·.1)) ++ [(cells S).toList] := by
      unfold secsM
      rw [List.map_append, List.map_append]
      simp only [List.map_cons, List.map_nil, HXK.out, HSM.out]
    have e2 : (pre ++ [x]).length = n5 := by rw [← HN5.out, List.length_append, List.length_append, secsM_len]; rfl
    refine ⟨HK4.out.trans (NB.out.2.2.1.from _), ⟨HQ6.out.trans HQ1.out.symm, HP6.out.trans HQ2.out.symm⟩, ⟨_, NB.out.1, ?_⟩, HB4.out.trans NB.out.2.2.2, HQ6.out, HP6.out⟩
    rw [e1, e2]
    have h9 := NB.out.2.1
    rw [HN5.out] at h9
    exact h9
  case done =>
    rintro Dn ys W2 hDn hys ⟨⟨v, hv, hr⟩, hB, hq, hp⟩ hK
    have hvc := hv.cell
    clear hv hq hp
    gi_wp2
    refine ⟨by simp, .inl ⟨_, _, rfl, run_takeDeferred hK, ?_⟩⟩
    have hg := grownBy_putObj' W2 Dn (.deferred none)
    have hrow : ∀ r, some Dn = some r → ∃ o : Obj, W2.heap[r]? = some o ∧ o.isCells = false := fun r e => by cases e; exact ⟨_, hK, rfl⟩
    have hl : ys.length = tens sl.length := by rw [← List.length_map (f := (·.1)), hys, List.length_range]
    rw [hl, hys] at hr
    refine ⟨v, (results_tmp (fn := Try.f13) (t := 2) rfl _ _ _).trans rfl, ⟨v, rfl, hr.kept hg ?_, hB.trans (belowK_b (w := w) (Nat.le_refl _) W2 Dn _ _ (by omega) hK rfl rfl)⟩⟩
    right
    intro e
    rcases hr.2 with ⟨rfl, _⟩ | ⟨g', cap, cur, rfl, _, hg', _⟩
    · cases e
    · obtain rfl : g' = Dn := by simpa [Value.ownBlock] using e
      rw [hK] at hg'
      cases hg'
  case stop =>
    rintro Dn c pre W2 hDn _ hf
    exact hf.elim
end Go.Proofs.Ytgakidimipipeaa
