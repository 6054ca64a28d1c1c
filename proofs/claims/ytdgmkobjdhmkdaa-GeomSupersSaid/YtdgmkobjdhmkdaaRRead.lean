/- The superblock, read by the document's own walk. -/
import Derived.Test.YtdgmkobjdhmkdaaRSuper
import Derived.Deep.RegionWith
import Derived.Deep.DeepCutAuto
namespace Go.Proofs.Ytdgmkobjdhmkdaa
open Go.RowKit Go.Sort
set_option linter.unusedVariables false
set_option maxRecDepth 100000

theorem bodyL_bytes {s : List Nat} (h : Bytes s) : Bytes (bodyL s) := by
  unfold bodyL bodyOf
  split
  · exact (h.drop _).take _
  · intro x hx; simp at hx
theorem isSuper_is {s : List Nat} (h : isSuper s = true) : openB s = true ∧ kindL s = 1 ∧ (bodyL s).length = 12 := by
  unfold isSuper at h
  simp only [Bool.and_eq_true] at h
  have h2 : superL (superOf s 0) (superOf s 1) (superOf s 2) = s := of_decide_eq_true h.2
  have hl : (superB (superOf s 0) (superOf s 1) (superOf s 2)).length ≤ 120 := by rw [superB_length]; decide
  generalize superB (superOf s 0) (superOf s 1) (superOf s 2) = B at *
  have e1 : openB s = true := by rw [← h2]; exact openB_sealL (by decide) (by rw [superB_length]; decide)
  have e2 : kindL s = 1 := by rw [← h2]; exact sealL_kind _ _
  have e3 : bodyL s = superB (superOf s 0) (superOf s 1) (superOf s 2) := by
    conv => lhs; rw [← h2]
    exact sealL_body _ _ (by rw [superB_length]; decide)
  exact ⟨e1, e2, by rw [e3, superB_length]⟩
theorem isSuper_no {s : List Nat} (h : openB s = false ∨ kindL s ≠ 1 ∨ (bodyL s).length ≠ 12) : isSuper s = false := by
  cases hc : isSuper s with
  | false => rfl
  | true =>
    obtain ⟨h1, h2, h3⟩ := isSuper_is hc
    rcases h with h | h | h
    · rw [h1] at h; cases h
    · exact absurd h2 h
    · exact absurd h3 h
theorem numAt_part {b : List Nat} (hb : Bytes b) (hl : b.length = 12) (k : Nat) (hk : k ≤ 2) : low (numAt b k) 4 = (b.drop (4 * k)).take 4 := by
  unfold numAt
  rw [if_pos (by omega)]
  have := low_le ((b.drop (4 * k)).take 4) ((hb.drop _).take 4)
  rw [show ((b.drop (4 * k)).take 4).length = 4 by simp; omega] at this
  exact this
theorem twelve_parts {b : List Nat} (hl : b.length = 12) : (b.drop (4 * 0)).take 4 ++ (b.drop (4 * 1)).take 4 ++ (b.drop (4 * 2)).take 4 = b := by
  match b, hl with
  | [_, _, _, _, _, _, _, _, _, _, _, _], _ => rfl
theorem super_back {s : List Nat} (hb : Bytes s) (ho : openB s = true) (hk : kindL s = 1) (hl : (bodyL s).length = 12) : isSuper s = mayB (superOf s 0) (superOf s 1) (superOf s 2) := by
  have e : bodyO s = bodyL s := by unfold bodyO; rw [ho]; rfl
  have e2 : superB (superOf s 0) (superOf s 1) (superOf s 2) = bodyL s := by
    unfold superB superOf
    rw [e, numAt_part (bodyL_bytes hb) hl 0 (by decide), numAt_part (bodyL_bytes hb) hl 1 (by decide), numAt_part (bodyL_bytes hb) hl 2 (by decide), twelve_parts hl]
  have e3 : superL (superOf s 0) (superOf s 1) (superOf s 2) = s := by
    unfold superL
    rw [e2, ← hk]
    unfold openB at ho
    exact (of_decide_eq_true ho).2.2
  unfold isSuper
  rw [e3]
  simp

def RReadPost (s : List Nat) (w : World) (e : Ending) (w' : World) : Prop :=
  Below w.heap.size w w' ∧ ((isSuper s = true ∧ e = .returned (.tuple #[.agg #[.int .i64 (superOf s 0 : Nat), .int .i64 (superOf s 1 : Nat), .int .i64 (superOf s 2 : Nat)], .bool true])) ∨
    (isSuper s = false ∧ e = .returned (.tuple #[.agg #[.int .i64 0, .int .i64 0, .int .i64 0], .bool false])))

theorem size_rgeom : (Try.prog.info? 66).map (·.size) = some 3 := by kernel_rfl
theorem results_rgeom_tmp {fn : Func} {p u : Tmp} (h : fn.results = #[.cell p 66, .tmp u]) (tmps : Array Value) (w : World) (g : Nat) (a b c : Value) (t : TypeId) (fr : Nat × Nat) (hp : tmps.getD p undef = .pointer (some ⟨g, 0, none⟩))
    (hg : w.heap[g]? = some (.cells #[a, b, c] t fr)) : (results fn tmps).run Try.prog w = .ok (.tuple #[.agg #[a, b, c], tmps.getD u undef]) w := by
  rw [results_cell_tmp h, hp]
  simp only [asAddr, Sem.run_pure, Result.andThen_ok]
  rw [run_loadVar_row w g t 66 #[a, b, c] fr _ hg Try.underlying66 rfl (by rw [size_rgeom]; rfl)]
  rfl

set_option maxHeartbeats 1600000 in
theorem rread_any (s : List Nat) (hs : s.length = 128) (hb : Bytes s) (w : World) :
    Calls Try.prog 57 #[.agg (cells s)] w fun e w' => RReadPost s w e w' := by
  have hz := zero_full
  have hg0 := heap_alloc_new w (.cells (cells s) 45)
  have hbA := (below_box w (.cells (cells s) 45)).alloc (by simp) (.cells #[.int .i64 0, .int .i64 0, .int .i64 0] 66)
  have hgA : ((w.alloc (.cells (cells s) 45)).alloc (.cells #[.int .i64 0, .int .i64 0, .int .i64 0] 66)).heap[w.heap.size]? = some (.cells (cells s) 45 (0, 0)) := by
    rw [Below.heap_alloc _ _ _ (by simp)]; exact hg0
  have hrA := heap_alloc2_new w (.cells (cells s) 45) (.cells #[.int .i64 0, .int .i64 0, .int .i64 0] 66)
  obtain ⟨W, hW⟩ : ∃ W, (w.alloc (.cells (cells s) 45)).alloc (.cells #[.int .i64 0, .int .i64 0, .int .i64 0] 66) = W := ⟨_, rfl⟩
  rw [hW] at hgA hrA hbA
  have HGA := Lib.hid hgA
  have hs1 : w.heap.size + 1 < W.heap.size := (Array.getElem?_eq_some_iff.1 hrA).1
  have HRA := Lib.hid hrA
  clear hg0 hgA hrA
  go_enter Try.func57, Try.ntmps57
  go_wp2_with (refine wpList_load_full rfl (.tmp 1) rfl w.heap.size 0 s rfl hs (block_cells hs HGA.out) ?_)
  refine (ropen_any s hs hb _).mono ?_
  rintro e w1 ⟨b1, h1⟩
  have hR1 : w1.heap[w.heap.size + 1]? = some (.cells #[.int .i64 0, .int .i64 0, .int .i64 0] 66 (0, 0)) := by rw [b1.block _ (by omega)]; exact HRA.out
  have hB1 := below_next hbA b1
  have HR1 := Lib.hid hR1
  have hs2 : w.heap.size + 1 < w1.heap.size := (Array.getElem?_eq_some_iff.1 hR1).1
  clear b1 hbA hW HGA HRA hR1 hs1
  rcases h1 with ⟨ho, a, cap, rfl, hrd, hc, hcm⟩ | ⟨ho, rfl⟩
  · obtain ⟨kd, hkd⟩ : ∃ kd, kindL s = kd := ⟨_, rfl⟩
    obtain ⟨len, hlen⟩ : ∃ len, (bodyL s).length = len := ⟨_, rfl⟩
    rw [hkd, hlen]
    rw [hlen] at hrd hc
    unfold maxLen at hcm
    by_cases h1 : kd = 1
    · by_cases h12 : len = 12
      · subst h1 h12
        have hSB := super_back hb ho hkd hlen
        have hbod : bodyO s = bodyL s := by unfold bodyO; rw [ho]; rfl
        have hbb := bodyL_bytes hb
        have hv : ∀ k, k ≤ 2 → superOf s k = le (((bodyL s).drop (4 * k)).take 4) := fun k hk => by unfold superOf numAt; rw [hbod, if_pos (by omega)]
        have hlt : ∀ k, superOf s k < 4294967296 := fun k => by unfold superOf; rw [hbod]; exact numAt_lt hbb k
        have hv0 := hv 0 (by decide)
        have hv1 := hv 1 (by decide)
        have hv2 := hv 2 (by decide)
        have hl0 := hlt 0
        have hl1 := hlt 1
        have hl2 := hlt 2
        obtain ⟨bb, off, rfl⟩ := hrd.some_of (by decide)
        have hp0 := hrd.part 0 4 (by decide)
        have hp1 := hrd.part 4 4 (by decide)
        have hp2 := hrd.part 8 4 (by decide)
        have hcap : 12 ≤ cap := hc
        rw [show off + 0 = off from rfl] at hp0
        obtain ⟨n0, hn0⟩ : ∃ n0, superOf s 0 = n0 := ⟨_, rfl⟩
        obtain ⟨n1, hn1⟩ : ∃ n1, superOf s 1 = n1 := ⟨_, rfl⟩
        obtain ⟨n2, hn2⟩ : ∃ n2, superOf s 2 = n2 := ⟨_, rfl⟩
        rw [hn0] at hl0 hv0 hSB
        rw [hn1] at hl1 hv1 hSB
        rw [hn2] at hl2 hv2 hSB
        have HV0 : Hid (le (((bodyL s).drop 0).take 4) = n0) := hv0.symm
        have HV1 : Hid (le (((bodyL s).drop 4).take 4) = n1) := hv1.symm
        have HV2 : Hid (le (((bodyL s).drop 8).take 4) = n2) := hv2.symm
        have HN0 := Lib.hid hn0
        have HN1 := Lib.hid hn1
        have HN2 := Lib.hid hn2
        have HSB := Lib.hid hSB
        clear hv hlt hv0 hv1 hv2 hn0 hn1 hn2 hSB hbod hbb hkd hlen ho hrd
        have hm0 : (n0 : Int) % 18446744073709551616 = n0 := by omega
        have hw0 : IntKind.i64.wrap (n0 : Int) = n0 := IntWalk.i64_in _ (by omega)
        have hw1 : IntKind.i64.wrap (n1 : Int) = n1 := IntWalk.i64_in _ (by omega)
        have hw2 : IntKind.i64.wrap (n2 : Int) = n2 := IntWalk.i64_in _ (by omega)
        have hi1 : (0 : Int) ≤ 4 ∧ (4 : Int) ≤ cap ∧ (8 : Int) ≤ cap := by omega
        have hi2 : ¬ cap = 8 := by omega
        have hi3 : ¬ cap = 4 := by omega
        go_upto_region 4 with fail
        go_cut [7] (fun v7 wc => ∃ x, v7 = .pointer (some ⟨x, 0, none⟩) ∧ Box3 wc x (.int .i64 (n0 : Int)) (.int .i64 (n1 : Int)) (.int .i64 (n2 : Int)) ∧ Below w1.heap.size w1 wc)
        case first =>
          go_region_held3 (fun _ => True) (trivial)
            ((first
              | (go_at_call 97; refine (num_any _ 4 _ _ _ (hp0.below (by repeat (first | with_reducible assumption | with_reducible exact Below.refl _ _ | with_reducible refine Below.drew ?_ | with_reducible refine Below.alloc ?_ (by simp) _))) (by decide)).mono ?_; rintro e w' ⟨rfl, rfl⟩; rw [HV0.out]; clear hp0)
              | (go_at_call 97; refine (num_any _ 4 _ _ _ (hp1.below (by repeat (first | with_reducible assumption | with_reducible exact Below.refl _ _ | with_reducible refine Below.drew ?_ | with_reducible refine Below.alloc ?_ (by simp) _))) (by decide)).mono ?_; rintro e w' ⟨rfl, rfl⟩; rw [HV1.out]; clear hp1)
              | (go_at_call 97; refine (num_any _ 4 _ _ _ (hp2.below (by repeat (first | with_reducible assumption | with_reducible exact Below.refl _ _ | with_reducible refine Below.drew ?_ | with_reducible refine Below.alloc ?_ (by simp) _))) (by decide)).mono ?_; rintro e w' ⟨rfl, rfl⟩; rw [HV2.out]; clear hp2)))
          all_goals
            go_wp2_with fail
            go_meet
            exact ⟨_, rfl, box3_new w1 _ _ _ _, (below_box w1 _).drew⟩
        case rest =>
          obtain ⟨x, rfl, hx, b2⟩ := hcut
          have hB2 := below_next hB1 b2
          have HR2 : Hid (wc.heap[w.heap.size + 1]? = some (.cells #[.int .i64 0, .int .i64 0, .int .i64 0] 66 (0, 0))) := by show _ = _; rw [b2.block _ hs2]; exact HR1.out
          have hs3 : w.heap.size + 1 < wc.heap.size := Nat.lt_of_lt_of_le hs2 b2.size
          have HX := Lib.hid hx
          clear hB1 HR1 b2 hp0 hp1 hp2 HV0 HV1 HV2
          obtain ⟨hgx, c0, c1, c2⟩ := hx
          by_cases hM : mayB n0 n1 n2 = true
          · have HM := Lib.hid hM
            have HF : Hid (isSuper s = true) := by show _ = _; rw [HSB.out, hM]
            clear hM HSB
            go_wp2_with fail
            refine (rmay_is true _ HM.out).mono ?_
            rintro e w3 ⟨rfl, b3⟩
            have hB3 := below_next hB2 b3
            have HR3 : Hid (w3.heap[w.heap.size + 1]? = some (.cells #[.int .i64 0, .int .i64 0, .int .i64 0] 66 (0, 0))) := by show _ = _; rw [b3.block _ hs3]; exact HR2.out
            obtain ⟨r0, r1, r2, f0, f1, f2, hr⟩ := kept3_of HR3.out
            obtain ⟨hgy, d0, d1, d2⟩ := HX.out.below b3
            clear b3 hB2 HR2 c0 c1 c2 hgx
            go_wp2
            refine bodyPost_ret (results_rgeom_tmp rfl _ _ (w.heap.size + 1) _ _ _ _ _ rfl (set3_heap _ _ _ HR3.out)) rfl ⟨?_, .inl ⟨HF.out, ?_⟩⟩
            · repeat (first | with_reducible assumption | with_reducible refine Below.setCell ?_ (by simp) _)
            · rw [HN0.out, HN1.out, HN2.out]
              rfl
          · have HM : Hid (mayB n0 n1 n2 = false) := by show _ = _; simpa using hM
            have HF : Hid (isSuper s = false) := by show _ = _; rw [HSB.out, HM.out]
            clear hM HSB
            go_wp2_with fail
            refine (rmay_is false _ HM.out).mono ?_
            rintro e w3 ⟨rfl, b3⟩
            have hB3 := below_next hB2 b3
            have HR3 : Hid (w3.heap[w.heap.size + 1]? = some (.cells #[.int .i64 0, .int .i64 0, .int .i64 0] 66 (0, 0))) := by show _ = _; rw [b3.block _ hs3]; exact HR2.out
            obtain ⟨r0, r1, r2, f0, f1, f2, hr⟩ := kept3_of HR3.out
            clear b3 hB2 HR2 c0 c1 c2 hgx
            go_wp2
            refine bodyPost_ret (results_rgeom_tmp rfl _ _ (w.heap.size + 1) _ _ _ _ _ rfl (set3_heap _ _ _ HR3.out)) rfl ⟨?_, .inr ⟨HF.out, rfl⟩⟩
            repeat (first | with_reducible assumption | with_reducible refine Below.setCell ?_ (by simp) _)
      · have HF : Hid (isSuper s = false) := isSuper_no (.inr (.inr (by omega)))
        have ht : ((len : Int) != 12) = true := by simp; omega
        have ht1 : ((kd : Int) != 1) = false := by simp; omega
        obtain ⟨r0, r1, r2, f0, f1, f2, hr⟩ := kept3_of HR1.out
        clear hkd hlen h1 h12 ho hrd
        go_wp2
        refine bodyPost_ret (results_rgeom_tmp rfl _ _ (w.heap.size + 1) _ _ _ _ _ rfl (set3_heap _ _ _ HR1.out)) rfl ⟨?_, .inr ⟨HF.out, rfl⟩⟩
        repeat (first | with_reducible assumption | with_reducible refine Below.setCell ?_ (by simp) _)
    · have HF : Hid (isSuper s = false) := isSuper_no (.inr (.inl (by omega)))
      have ht1 : ((kd : Int) != 1) = true := by simp; omega
      obtain ⟨r0, r1, r2, f0, f1, f2, hr⟩ := kept3_of HR1.out
      clear hkd hlen h1 ho hrd
      go_wp2
      refine bodyPost_ret (results_rgeom_tmp rfl _ _ (w.heap.size + 1) _ _ _ _ _ rfl (set3_heap _ _ _ HR1.out)) rfl ⟨?_, .inr ⟨HF.out, rfl⟩⟩
      repeat (first | with_reducible assumption | with_reducible refine Below.setCell ?_ (by simp) _)
  · have HF : Hid (isSuper s = false) := isSuper_no (.inl ho)
    obtain ⟨r0, r1, r2, f0, f1, f2, hr⟩ := kept3_of HR1.out
    clear ho
    go_wp2
    refine bodyPost_ret (results_rgeom_tmp rfl _ _ (w.heap.size + 1) _ _ _ _ _ rfl (set3_heap _ _ _ HR1.out)) rfl ⟨?_, .inr ⟨HF.out, rfl⟩⟩
    repeat (first | with_reducible assumption | with_reducible refine Below.setCell ?_ (by simp) _)
end Go.Proofs.Ytdgmkobjdhmkdaa
