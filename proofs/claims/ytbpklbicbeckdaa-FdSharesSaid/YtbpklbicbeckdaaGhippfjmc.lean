/- Open files: Open, Close. -/
import Derived.Test.YtbpklbicbeckdaaGhagcljcf
namespace Go.Proofs.Ytbpklbicbeckdaa
open Go.RowKit Go.Sort
set_option linter.unusedVariables false
set_option linter.unusedSimpArgs false
set_option maxRecDepth 100000

theorem grown_new {w w2 w3 : World} {row : Option Nat} {b : Nat} (h : w.grownBy w2 row) (k : w2.grownBy w3 (some b)) (hb : w.heap.size ≤ b) : w.grownBy w3 row :=
  ⟨k.os.trans h.os, k.tape.trans h.tape, k.output.trans h.output, Nat.le_trans h.size k.size, fun j hj hne => (k.block j (Nat.lt_of_lt_of_le hj h.size) (by intro e; have : j = b := Option.some.inj e; omega)).trans (h.block j hj hne)⟩
theorem grown_ofBelow {w w' : World} {row : Option Nat} (b : Below w.heap.size w w') : w.grownBy w' row := grown_belowF b (grown_same _ _)
theorem IsFiles.keptB {B : Nat} {w w' : World} {g gs b : Nat} {fl : List FileD} (h : IsFiles B w g gs fl) (hg : w.grownBy w' (some b)) (h1 : b ≠ g) (h2 : b ≠ gs) : IsFiles B w' g gs fl :=
  ⟨(hg.block g (files_lt h).1 (by intro e; exact h1 (Option.some.inj e).symm)).trans h.1, h.2.1.kept hg (.inr (by intro e; exact h2 (Option.some.inj e).symm)), h.2.2⟩
theorem firstF_or {α : Type} (p : α → Bool) (l : List α) : (firstI p l = -1 ∧ ∀ s ∈ l, p s = false) ∨ ∃ (i : Nat) (s : α), firstI p l = (i : Int) ∧ l[i]? = some s ∧ p s = true ∧ ∀ (j : Nat) (t : α), j < i → l[j]? = some t → p t = false := by
  have key : ∀ k, k ≤ l.length → (∀ (j : Nat) (t : α), j < k → l[j]? = some t → p t = false) ∨ ∃ (i : Nat) (s : α), l[i]? = some s ∧ p s = true ∧ ∀ (j : Nat) (t : α), j < i → l[j]? = some t → p t = false := by
    intro k
    induction k with
    | zero => exact fun _ => .inl fun j t hj => by omega
    | succ k ih =>
      intro hk
      rcases ih (by omega) with h | h
      · have hx : l[k]? = some l[k] := List.getElem?_eq_getElem (by omega)
        cases hp : p l[k] with
        | true => exact .inr ⟨k, l[k], hx, hp, h⟩
        | false =>
          refine .inl fun j t hj ht => ?_
          by_cases e : j = k
          · subst e
            rw [hx] at ht
            cases ht
            exact hp
          · exact h j t (by omega) ht
      · exact .inr h
  have empty : ∀ k, (∀ (j : Nat) (t : α), j < k → l[j]? = some t → p t = false) → placesL p l k = [] := by
    intro k h
    unfold placesL
    rw [List.filter_eq_nil_iff]
    intro j hj
    cases hx : l[j]? with
    | none => simp
    | some t => simp [h j t (List.mem_range.1 hj) hx]
  rcases key l.length (Nat.le_refl _) with h | ⟨i, s, h1, h2, h3⟩
  · refine .inl ⟨?_, fun s hs => ?_⟩
    · unfold firstI
      rw [empty _ h]
    · obtain ⟨j, hj⟩ := List.getElem?_of_mem hs
      exact h j s (List.getElem?_eq_some_iff.1 hj).1 hj
  · exact .inr ⟨i, s, firstI_hit (empty i h3) h1 h2, h1, h2, h3⟩
set_option maxHeartbeats 2000000 in
theorem fopen_is {B : Nat} {w : World} {g gs : Nat} {fl : List FileD} (h : IsFiles B w g gs fl) (k n f : Int) :
    Calls Try.prog 25 #[.pointer (some ⟨g, 0, none⟩), .int .i64 k, .int .i64 n, .int .i64 f] w (FilesPost B w g gs (openF fl k n f).1 (.tuple #[.int .i64 (openF fl k n f).2.1, .int .i64 (openF fl k n f).2.2])) := by
  have H := Lib.hid h
  have c0 := files_facts h
  have hlen := h.2.2.2.2
  have HIX := Lib.hid (index_file fl (some ⟨gs, 0, none⟩) fl.length w (files_reads h) (by omega) (fun _ => True) (fun _ _ => trivial) (fun s => !knownB s) 68 #[] enters_unknown (unknown_pred w))
  clear h
  unfold openF
  by_cases hb : badO k n f
  · rw [if_pos hb]
    have HB := Lib.hid hb
    clear hb HIX
    by_cases h1 : k < 1
    · go_enter Try.func25, Try.ntmps25
      go_wp2
      go_ret2
      exact FilesPost.same H.out (Below.refl _ _) _
    by_cases h2 : 3 < k
    · go_enter Try.func25, Try.ntmps25
      go_wp2
      go_ret2
      exact FilesPost.same H.out (Below.refl _ _) _
    by_cases h3 : n < 1
    · go_enter Try.func25, Try.ntmps25
      go_wp2
      go_ret2
      exact FilesPost.same H.out (Below.refl _ _) _
    by_cases h4 : f < 1
    · go_enter Try.func25, Try.ntmps25
      go_wp2
      go_ret2
      exact FilesPost.same H.out (Below.refl _ _) _
    have h5 : 7 < f := by have := HB.out; unfold badO at this; omega
    go_enter Try.func25, Try.ntmps25
    go_wp2
    go_ret2
    exact FilesPost.same H.out (Below.refl _ _) _
  · rw [if_neg hb]
    unfold badO at hb
    have h1 : ¬ k < 1 := by omega
    have h2 : ¬ 3 < k := by omega
    have h3 : ¬ n < 1 := by omega
    have h4 : ¬ f < 1 := by omega
    have h5 : ¬ 7 < f := by omega
    clear hb
    rcases firstF_or (fun o : FileD => !knownB o) fl with ⟨hf, _⟩ | ⟨i, s, hf, hu, _, _⟩
    · rw [hf] at HIX ⊢
      clear hf
      rw [if_pos (by decide)]
      go_enter Try.func25, Try.ntmps25
      go_wp2_with fail
      refine HIX.out.mono ?_
      rintro e w1 ⟨rfl, b1⟩
      have HB := Lib.hid b1
      clear b1
      go_wp2
      go_ret2
      exact FilesPost.same H.out HB.out _
    · rw [hf] at HIX ⊢
      clear hf
      have hin : ¬ (i : Int) < 0 := by omega
      rw [if_neg hin, Int.toNat_natCast]
      have hi := (List.getElem?_eq_some_iff.1 hu).1
      have hi2 : (i : Int) < (fl.length : Int) := by omega
      have hi0 : (0 : Int) ≤ (i : Int) := by omega
      have hI : (i : Int) ≤ 64 := by omega
      have HU := Lib.hid hu
      clear hu hi
      go_enter Try.func25, Try.ntmps25
      go_wp2_with fail
      refine HIX.out.mono ?_
      rintro e w1 ⟨rfl, b1⟩
      have h1' := H.out.below b1
      have c1 := files_facts h1'
      obtain ⟨r0, r1, r2, r3, r4⟩ := files_row h1' HU.out
      have f0 := files_free h1' (i * 5)
      have f1 := files_free h1' (i * 5 + 1)
      have f2 := files_free h1' (i * 5 + 2)
      have f3 := files_free h1' (i * 5 + 3)
      have f4 := files_free h1' (i * 5 + 4)
      have hmp := files_put h1' HU.out ⟨k, n, 0, f, 1⟩
      have HNEW := Lib.hid hmp
      have HB := Lib.hid b1
      obtain ⟨W2, hW2⟩ : ∃ W2, W2 = put5 w1 gs i ⟨k, n, 0, f, 1⟩ := ⟨_, rfl⟩
      rw [← hW2] at HNEW
      simp only [put5] at hW2
      clear b1 h1' hmp c0
      go_wp2
      go_ret2
      first
        | (rw [← hW2]; exact ⟨rfl, HNEW.out.1, grown_belowF HB.out HNEW.out.2⟩)
        | exact ⟨rfl, HNEW.out.1, grown_belowF HB.out HNEW.out.2⟩
set_option maxHeartbeats 2000000 in
theorem fclose_is {B : Nat} {w : World} {g gs : Nat} {fl : List FileD} (h : IsFiles B w g gs fl) (hB : B ≤ w.heap.size) (hf : FewRefs 1000 fl) (n : Int) :
    Calls Try.prog 29 #[.pointer (some ⟨g, 0, none⟩), .int .i64 n] w (FilesPost B w g gs (closeF fl n).1 (.tuple #[fileA (closeF fl n).2.1, .bool (closeF fl n).2.2.1, .int .i64 (closeF fl n).2.2.2])) := by
  have b0 := below_box w (.cells #[.int .i64 0, .int .i64 0, .int .i64 0, .int .i64 0, .int .i64 0] 74)
  have H2 := Lib.hid (h.below b0)
  have HB0 := Lib.hid b0
  have HL := Lib.hid (files_lt h)
  clear h b0
  cases ho : openAt fl n with
  | none =>
    have hcl : closeF fl n = (fl, zeroF, false, 2) := by unfold closeF; rw [ho]
    rw [hcl]
    clear hcl
    have HO := Lib.hid ho
    clear ho
    go_enter Try.func29, Try.ntmps29
    go_wp2_with fail
    refine (ffind_no H2.out n HO.out).mono ?_
    rintro e w' ⟨rfl, b1⟩
    have n1 := (b1.block w.heap.size (by simp)).trans (heap_alloc_new w _)
    have x0 := cell_of_row n1 0
    have x1 := cell_of_row n1 1
    have x2 := cell_of_row n1 2
    have x3 := cell_of_row n1 3
    have x4 := cell_of_row n1 4
    have ff := fun i => frozen_of_row w' w.heap.size i _ _ n1
    have G := Lib.hid (five_set (.int .i64 0) (.int .i64 0) (.int .i64 0) (.int .i64 0) (.int .i64 0) n1)
    have HB := Lib.hid (below_next HB0.out b1)
    have HF := Lib.hid (H2.out.below b1)
    clear b1 n1
    go_wp2
    refine bodyPost_ret (results_file_two rfl _ _ w.heap.size rfl G.out.1) rfl ?_
    have hl := HL.out
    exact ⟨rfl, HF.out.keptB G.out.2 (by omega) (by omega), grown_new (grown_ofBelow HB.out) G.out.2 (Nat.le_refl _)⟩
  | some o =>
    obtain ⟨i, rfl, hu, hk⟩ := openAt_some ho
    have hcl : closeF fl (i : Int) = if o.refs = 1 then (fl.set i zeroF, o, true, 0) else (fl.set i { o with refs := o.refs - 1 }, o, false, 0) := by unfold closeF; rw [ho, Int.toNat_natCast]
    obtain ⟨⟨F1, F2, F3, F4⟩, hq⟩ : ∃ q, closeF fl (i : Int) = q := ⟨_, rfl⟩
    rw [hq] at hcl ⊢
    have HCL := Lib.hid hcl
    clear hcl hq
    dsimp only
    have hb := hf o (List.mem_of_getElem? hu)
    have HU := Lib.hid hu
    have HK := Lib.hid hk
    obtain ⟨o', ho'⟩ : ∃ x : FileD, { o with refs := o.refs - 1 } = x := ⟨_, rfl⟩
    have HST := Lib.hid (fun (W : World) (hW : IsFiles B W g gs fl) => files_store (j := 4) hW hu (by decide) (.int .i64 (o.refs - 1)) (s' := o') (by rw [← ho']; rfl))
    have HO' := Lib.hid ho'
    have hw1 : IntKind.i64.wrap (o.refs - 1) = o.refs - 1 := IntWalk.i64_in _ (by omega)
    have hi := (List.getElem?_eq_some_iff.1 hu).1
    have HI := Lib.hid hi
    clear ho hu hk hf hi ho'
    go_enter Try.func29, Try.ntmps29
    go_wp2_with fail
    refine (ffind_yes H2.out i o HU.out HK.out).mono ?_
    rintro e w' ⟨rfl, b1⟩
    obtain ⟨b0, hb0⟩ : ∃ x, w.heap.size = x := ⟨_, rfl⟩
    have hl := HL.out
    have n1 := (b1.block w.heap.size (by simp)).trans (heap_alloc_new w _)
    have h1 := H2.out.below b1
    obtain ⟨r0, r1, r2, r3, r4⟩ := files_row h1 HU.out
    have bw := below_box w' (.cells #[.int .i64 o.kind, .int .i64 o.num, .int .i64 o.at_, .int .i64 o.flags, .int .i64 o.refs] 74)
    have n2 := heap_alloc_new w' (.cells #[.int .i64 o.kind, .int .i64 o.num, .int .i64 o.at_, .int .i64 o.flags, .int .i64 o.refs] 74)
    obtain ⟨w1, hw1'⟩ : ∃ x, w'.alloc (.cells #[.int .i64 o.kind, .int .i64 o.num, .int .i64 o.at_, .int .i64 o.flags, .int .i64 o.refs] 74) = x := ⟨_, rfl⟩
    rw [hw1'] at bw n2
    have h2 := h1.below bw
    obtain ⟨p0, p1, p2, p3, p4⟩ := files_row h2 HU.out
    have q4 := files_free h2 (i * 5 + 4)
    have hst := HST.out w1 h2
    obtain ⟨w2, hw2⟩ : ∃ x, w1.setCell ⟨gs, i * 5 + 4, none⟩ (.int .i64 (o.refs - 1)) = x := ⟨_, rfl⟩
    rw [hw2] at hst
    obtain ⟨s0, s1, s2, s3, s4⟩ := files_row hst.1 (List.getElem?_set_self HI.out)
    have hl1 := files_lt h1
    obtain ⟨g9, hg9⟩ : ∃ x, w'.heap.size = x := ⟨_, rfl⟩
    have hb9 : b0 < g9 := by rw [← hb0, ← hg9]; exact (Array.getElem?_eq_some_iff.1 n1).1
    have hgs9 : gs < b0 := by rw [← hb0]; exact hl.2.1
    have hgb : g < b0 := by rw [← hb0]; exact hl.1
    rw [hg9] at n2
    rw [hb0] at n1
    have n1' := (bw.block b0 (by omega)).trans n1
    have n1'' := (hst.2.block b0 (Array.getElem?_eq_some_iff.1 n1').1 (by intro e; have : b0 = gs := Option.some.inj e; omega)).trans n1'
    have n2' := (hst.2.block g9 (Array.getElem?_eq_some_iff.1 n2).1 (by intro e; have : g9 = gs := Option.some.inj e; omega)).trans n2
    have HF := Lib.hid hst.1
    have HN1 := Lib.hid n1''
    have HN2 := Lib.hid n2'
    have HG : Hid (w.grownBy w2 (some gs)) := Lib.hid (grown_belowF (below_next (below_next HB0.out b1) bw) hst.2)
    have hko : knownB o' = decide (0 < o.refs - 1) := by rw [← HO'.out]; rfl
    clear b1 n1 n2 n1' n1'' n2' h1 h2 bw hst hl hl1
    go_wp2_with fail
    refine (known_is o' w2).mono ?_
    rintro e w3 ⟨rfl, b3⟩
    have HF3 := Lib.hid (HF.out.below b3)
    have m1 := (b3.block b0 (Array.getElem?_eq_some_iff.1 HN1.out).1).trans HN1.out
    have m2 := (b3.block g9 (Array.getElem?_eq_some_iff.1 HN2.out).1).trans HN2.out
    have HG3 : Hid (w.grownBy w3 (some gs)) := Lib.hid (grown_transF HG.out (grown_ofBelow b3))
    have HLB : Hid (w.heap.size ≤ b0 ∧ b0 ≠ g ∧ b0 ≠ gs ∧ g9 ≠ gs) := Lib.hid ⟨by omega, by omega, by omega, by omega⟩
    clear b3 p0 p1 p2 p3 p4 q4 s0 s1 s2 s3 s4 hw2 hg9 hb9 hgs9 hgb HN1 HN2 HF HG r0 r1 r2 r3 r4 hw1'
    by_cases hr : o.refs = 1
    · have hk' : knownB o' = false := by rw [hko, hr]; decide
      rw [hk']
      have hc := HCL.out
      rw [if_pos hr] at hc
      cases hc
      clear HCL hk' hko hr hb
      have HU3 := List.getElem?_set_self (l := fl) (a := o') HI.out
      have t0 := files_free HF3.out (i * 5)
      have t1 := files_free HF3.out (i * 5 + 1)
      have t2 := files_free HF3.out (i * 5 + 2)
      have t3 := files_free HF3.out (i * 5 + 3)
      have t4 := files_free HF3.out (i * 5 + 4)
      obtain ⟨s0, s1, s2, s3, s4⟩ := files_row HF3.out HU3
      have hp := files_put HF3.out HU3 zeroF
      rw [List.set_set] at hp
      obtain ⟨W4, hW4⟩ : ∃ x, put5 w3 gs i zeroF = x := ⟨_, rfl⟩
      rw [hW4] at hp
      have HP := Lib.hid hp
      clear HU3
      simp only [put5, zeroF] at hW4
      have m14 := (hp.2.block b0 (Array.getElem?_eq_some_iff.1 m1).1 (by intro e; exact HLB.out.2.2.1 (Option.some.inj e))).trans m1
      have m24 := (hp.2.block g9 (Array.getElem?_eq_some_iff.1 m2).1 (by intro e; exact HLB.out.2.2.2 (Option.some.inj e))).trans m2
      have x0 := cell_of_row m14 0
      have x1 := cell_of_row m14 1
      have x2 := cell_of_row m14 2
      have x3 := cell_of_row m14 3
      have x4 := cell_of_row m14 4
      have ff := fun i => frozen_of_row W4 b0 i _ _ m14
      have y0 := cell_of_row m24 0
      have y1 := cell_of_row m24 1
      have y2 := cell_of_row m24 2
      have y3 := cell_of_row m24 3
      have y4 := cell_of_row m24 4
      have hg5 := five_set (.int .i64 o.kind) (.int .i64 o.num) (.int .i64 o.at_) (.int .i64 o.flags) (.int .i64 o.refs) m14
      obtain ⟨W5, hW5⟩ : ∃ x, (((((W4.setCell ⟨b0, 0, none⟩ (.int .i64 o.kind)).setCell ⟨b0, 1, none⟩ (.int .i64 o.num)).setCell ⟨b0, 2, none⟩ (.int .i64 o.at_)).setCell ⟨b0, 3, none⟩ (.int .i64 o.flags)).setCell ⟨b0, 4, none⟩ (.int .i64 o.refs)) = x := ⟨_, rfl⟩
      rw [hW5] at hg5
      have G := Lib.hid hg5
      clear hg5
      clear m1 m2 m14 m24 hp
      go_wp2
      refine bodyPost_ret (results_file_two rfl _ _ b0 rfl G.out.1) rfl ?_
      exact ⟨rfl, HP.out.1.keptB G.out.2 HLB.out.2.1 HLB.out.2.2.1, grown_new (grown_transF HG3.out HP.out.2) G.out.2 HLB.out.1⟩
    · have hk' : knownB o' = true := by rw [hko]; exact decide_eq_true (by have := HK.out; unfold knownB at this; have h9 := of_decide_eq_true this; omega)
      rw [hk']
      have hc := HCL.out
      rw [if_neg hr, HO'.out] at hc
      cases hc
      clear HCL hk' hko hr
      have x0 := cell_of_row m1 0
      have x1 := cell_of_row m1 1
      have x2 := cell_of_row m1 2
      have x3 := cell_of_row m1 3
      have x4 := cell_of_row m1 4
      have ff := fun i => frozen_of_row w3 b0 i _ _ m1
      have y0 := cell_of_row m2 0
      have y1 := cell_of_row m2 1
      have y2 := cell_of_row m2 2
      have y3 := cell_of_row m2 3
      have y4 := cell_of_row m2 4
      have hg5 := five_set (.int .i64 o.kind) (.int .i64 o.num) (.int .i64 o.at_) (.int .i64 o.flags) (.int .i64 o.refs) m1
      obtain ⟨W5, hW5⟩ : ∃ x, (((((w3.setCell ⟨b0, 0, none⟩ (.int .i64 o.kind)).setCell ⟨b0, 1, none⟩ (.int .i64 o.num)).setCell ⟨b0, 2, none⟩ (.int .i64 o.at_)).setCell ⟨b0, 3, none⟩ (.int .i64 o.flags)).setCell ⟨b0, 4, none⟩ (.int .i64 o.refs)) = x := ⟨_, rfl⟩
      rw [hW5] at hg5
      have G := Lib.hid hg5
      clear hg5
      clear m1 m2
      go_wp2
      refine bodyPost_ret (results_file_two rfl _ _ b0 rfl G.out.1) rfl ?_
      exact ⟨rfl, HF3.out.keptB G.out.2 HLB.out.2.1 HLB.out.2.2.1, grown_new HG3.out G.out.2 HLB.out.1⟩
end Go.Proofs.Ytbpklbicbeckdaa
