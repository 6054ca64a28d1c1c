/- Open files: Open, Close. slices.Repeat of one number, a few times. What one process knows: a set in memory; NewSet, has, Get, Put, Take, At. -/
import Derived.Test.YtebkkbmplndcpaaGakpnheph
import Derived.Laws.CopyOwn
import Derived.Deep.RegionHeld
import Derived.Deep.RegionLaw
namespace Go.Proofs.Ytebkkbmplndcpaa
open Go.RowKit Go.Sort
set_option linter.unusedVariables false
set_option linter.unusedSimpArgs false
set_option maxRecDepth 100000

theorem grown_new {w w2 w3 : World} {row : Option Nat} {b : Nat} (h : w.grownBy w2 row) (k : w2.grownBy w3 (some b)) (hb : w.heap.size ≤ b) : w.grownBy w3 row :=
  ⟨k.os.trans h.os, k.tape.trans h.tape, k.output.trans h.output, Nat.le_trans h.size k.size, fun j hj hne => (k.block j (Nat.lt_of_lt_of_le hj h.size) (by intro e; have : j = b := Option.some.inj e; omega)).trans (h.block j hj hne)⟩
theorem grown_ofBelow {w w' : World} {row : Option Nat} (b : Below w.heap.size w w') : w.grownBy w' row := grown_belowF b (grown_same _ _)
theorem IsFiles.keptB {B : Nat} {w w' : World} {g gs b : Nat} {fl : List FileD} (h : IsFiles B w g gs fl) (hg : w.grownBy w' (some b)) (h1 : b ≠ g) (h2 : b ≠ gs) : IsFiles B w' g gs fl :=
  ⟨(hg.block g (files_lt h).1 (by intro e; exact h1 (Option.some.inj e).symm)).trans h.1, h.2.1.kept hg (.inr (by intro e; exact h2 (Option.some.inj e).symm)), h.2.2⟩
theorem firstF_or {α : Type} (p : α → Bool) (l : List α) : (firstI p l = -1 ∧ ∀ s ∈ l, p s = false) ∨ ∃ (i : Nat) (s : α), firstI p l = (i : Int) ∧ l[i]? = some s ∧ p s = true ∧ ∀ (j : Nat) (t : α), j < i → l[j]? = some t → p t = false := by
  have key : ∀ k, k ≤ l.length → (∀ (j : Nat) (t : α), j < k → l[j]? = some t → p t = false) ∨ ∃ (i : Nat) (s : α), l[i]? = some s ∧ p s = true ∧ ∀ (j : Nat) (t : α), j < i → l[j]? = some t → p t = false := by
    intro k
    induction k with
    | zero => exact fun _ => .inl fun j t hj => by omega
    | succ k ih =>
      intro hk
      rcases ih (by omega) with h | h
      · have hx : l[k]? = some l[k] := List.getElem?_eq_getElem (by omega)
        cases hp : p l[k] with
        | true => exact .inr ⟨k, l[k], hx, hp, h⟩
        | false =>
          refine .inl fun j t hj ht => ?_
          by_cases e : j = k
          · subst e
            rw [hx] at ht
            cases ht
            exact hp
          · exact h j t (by omega) ht
      · exact .inr h
  have empty : ∀ k, (∀ (j : Nat) (t : α), j < k → l[j]? = some t → p t = false) → placesL p l k = [] := by
    intro k h
    unfold placesL
    rw [List.filter_eq_nil_iff]
    intro j hj
    cases hx : l[j]? with
    | none => simp
    | some t => simp [h j t (List.mem_range.1 hj) hx]
  rcases key l.length (Nat.le_refl _) with h | ⟨i, s, h1, h2, h3⟩
  · refine .inl ⟨?_, fun s hs => ?_⟩
    · unfold firstI
      rw [empty _ h]
    · obtain ⟨j, hj⟩ := List.getElem?_of_mem hs
      exact h j s (List.getElem?_eq_some_iff.1 hj).1 hj
  · exact .inr ⟨i, s, firstI_hit (empty i h3) h1 h2, h1, h2, h3⟩
set_option maxHeartbeats 2000000 in
theorem fopen_is {B : Nat} {w : World} {g gs : Nat} {fl : List FileD} (h : IsFiles B w g gs fl) (k n f : Int) :
    Calls Try.prog 18 #[.pointer (some ⟨g, 0, none⟩), .int .i64 k, .int .i64 n, .int .i64 f] w (FilesPost B w g gs (openF fl k n f).1 (.tuple #[.int .i64 (openF fl k n f).2.1, .int .i64 (openF fl k n f).2.2])) := by
  have H := Lib.hid h
  have c0 := files_facts h
  have hlen := h.2.2.2.2
  have HIX := Lib.hid (index_file fl (some ⟨gs, 0, none⟩) fl.length w (files_reads h) (by omega) (fun _ => True) (fun _ _ => trivial) (fun s => !knownB s) 58 #[] enters_unknown (unknown_pred w))
  clear h
  unfold openF
  by_cases hb : badO k n f
  · rw [if_pos hb]
    have HB := Lib.hid hb
    clear hb HIX
    by_cases h1 : k < 1
    · go_enter Try.func18, Try.ntmps18
      go_wp2
      go_ret2
      exact FilesPost.same H.out (Below.refl _ _) _
    by_cases h2 : 3 < k
    · go_enter Try.func18, Try.ntmps18
      go_wp2
      go_ret2
      exact FilesPost.same H.out (Below.refl _ _) _
    by_cases h3 : n < 1
    · go_enter Try.func18, Try.ntmps18
      go_wp2
      go_ret2
      exact FilesPost.same H.out (Below.refl _ _) _
    by_cases h4 : f < 1
    · go_enter Try.func18, Try.ntmps18
      go_wp2
      go_ret2
      exact FilesPost.same H.out (Below.refl _ _) _
    have h5 : 7 < f := by have := HB.out; unfold badO at this; omega
    go_enter Try.func18, Try.ntmps18
    go_wp2
    go_ret2
    exact FilesPost.same H.out (Below.refl _ _) _
  · rw [if_neg hb]
    unfold badO at hb
    have h1 : ¬ k < 1 := by omega
    have h2 : ¬ 3 < k := by omega
    have h3 : ¬ n < 1 := by omega
    have h4 : ¬ f < 1 := by omega
    have h5 : ¬ 7 < f := by omega
    clear hb
    rcases firstF_or (fun o : FileD => !knownB o) fl with ⟨hf, _⟩ | ⟨i, s, hf, hu, _, _⟩
    · rw [hf] at HIX ⊢
      clear hf
      rw [if_pos (by decide)]
      go_enter Try.func18, Try.ntmps18
      go_wp2_with fail
      refine HIX.out.mono ?_
      rintro e w1 ⟨rfl, b1⟩
      have HB := Lib.hid b1
      clear b1
      go_wp2
      go_ret2
      exact FilesPost.same H.out HB.out _
    · rw [hf] at HIX ⊢
      clear hf
      have hin : ¬ (i : Int) < 0 := by omega
      rw [if_neg hin, Int.toNat_natCast]
      have hi := (List.getElem?_eq_some_iff.1 hu).1
      have hi2 : (i : Int) < (fl.length : Int) := by omega
      have hi0 : (0 : Int) ≤ (i : Int) := by omega
      have hI : (i : Int) ≤ 64 := by omega
      have HU := Lib.hid hu
      clear hu hi
      go_enter Try.func18, Try.ntmps18
      go_wp2_with fail
      refine HIX.out.mono ?_
      rintro e w1 ⟨rfl, b1⟩
      have h1' := H.out.below b1
      have c1 := files_facts h1'
      obtain ⟨r0, r1, r2, r3, r4⟩ := files_row h1' HU.out
      have f0 := files_free h1' (i * 5)
      have f1 := files_free h1' (i * 5 + 1)
      have f2 := files_free h1' (i * 5 + 2)
      have f3 := files_free h1' (i * 5 + 3)
      have f4 := files_free h1' (i * 5 + 4)
      have hmp := files_put h1' HU.out ⟨k, n, 0, f, 1⟩
      have HNEW := Lib.hid hmp
      have HB := Lib.hid b1
      obtain ⟨W2, hW2⟩ : ∃ W2, W2 = put5 w1 gs i ⟨k, n, 0, f, 1⟩ := ⟨_, rfl⟩
      rw [← hW2] at HNEW
      simp only [put5] at hW2
      clear b1 h1' hmp c0
      go_wp2
      go_ret2
      first
        | (rw [← hW2]; exact ⟨rfl, HNEW.out.1, grown_belowF HB.out HNEW.out.2⟩)
        | exact ⟨rfl, HNEW.out.1, grown_belowF HB.out HNEW.out.2⟩
set_option maxHeartbeats 2000000 in
theorem fclose_is {B : Nat} {w : World} {g gs : Nat} {fl : List FileD} (h : IsFiles B w g gs fl) (hB : B ≤ w.heap.size) (hf : FewRefs 1000 fl) (n : Int) :
    Calls Try.prog 22 #[.pointer (some ⟨g, 0, none⟩), .int .i64 n] w (FilesPost B w g gs (closeF fl n).1 (.tuple #[fileA (closeF fl n).2.1, .bool (closeF fl n).2.2.1, .int .i64 (closeF fl n).2.2.2])) := by
  have b0 := below_box w (.cells #[.int .i64 0, .int .i64 0, .int .i64 0, .int .i64 0, .int .i64 0] 58)
  have H2 := Lib.hid (h.below b0)
  have HB0 := Lib.hid b0
  have HL := Lib.hid (files_lt h)
  clear h b0
  cases ho : openAt fl n with
  | none =>
    have hcl : closeF fl n = (fl, zeroF, false, 2) := by unfold closeF; rw [ho]
    rw [hcl]
    clear hcl
    have HO := Lib.hid ho
    clear ho
    go_enter Try.func22, Try.ntmps22
    go_wp2_with fail
    refine (ffind_no H2.out n HO.out).mono ?_
    rintro e w' ⟨rfl, b1⟩
    have n1 := (b1.block w.heap.size (by simp)).trans (heap_alloc_new w _)
    have x0 := cell_of_row n1 0
    have x1 := cell_of_row n1 1
    have x2 := cell_of_row n1 2
    have x3 := cell_of_row n1 3
    have x4 := cell_of_row n1 4
    have ff := fun i => frozen_of_row w' w.heap.size i _ _ n1
    have G := Lib.hid (five_set (.int .i64 0) (.int .i64 0) (.int .i64 0) (.int .i64 0) (.int .i64 0) n1)
    have HB := Lib.hid (below_next HB0.out b1)
    have HF := Lib.hid (H2.out.below b1)
    clear b1 n1
    go_wp2
    refine bodyPost_ret (results_file_two rfl _ _ w.heap.size rfl G.out.1) rfl ?_
    have hl := HL.out
    exact ⟨rfl, HF.out.keptB G.out.2 (by omega) (by omega), grown_new (grown_ofBelow HB.out) G.out.2 (Nat.le_refl _)⟩
  | some o =>
    obtain ⟨i, rfl, hu, hk⟩ := openAt_some ho
    have hcl : closeF fl (i : Int) = if o.refs = 1 then (fl.set i zeroF, o, true, 0) else (fl.set i { o with refs := o.refs - 1 }, o, false, 0) := by unfold closeF; rw [ho, Int.toNat_natCast]
    obtain ⟨⟨F1, F2, F3, F4⟩, hq⟩ : ∃ q, closeF fl (i : Int) = q := ⟨_, rfl⟩
    rw [hq] at hcl ⊢
    have HCL := Lib.hid hcl
    clear hcl hq
    dsimp only
    have hb := hf o (List.mem_of_getElem? hu)
    have HU := Lib.hid hu
    have HK := Lib.hid hk
    obtain ⟨o', ho'⟩ : ∃ x : FileD, { o with refs := o.refs - 1 } = x := ⟨_, rfl⟩
    have HST := Lib.hid (fun (W : World) (hW : IsFiles B W g gs fl) => files_store (j := 4) hW hu (by decide) (.int .i64 (o.refs - 1)) (s' := o') (by rw [← ho']; rfl))
    have HO' := Lib.hid ho'
    have hw1 : IntKind.i64.wrap (o.refs - 1) = o.refs - 1 := IntWalk.i64_in _ (by omega)
    have hi := (List.getElem?_eq_some_iff.1 hu).1
    have HI := Lib.hid hi
    clear ho hu hk hf hi ho'
    go_enter Try.func22, Try.ntmps22
    go_wp2_with fail
    refine (ffind_yes H2.out i o HU.out HK.out).mono ?_
    rintro e w' ⟨rfl, b1⟩
    obtain ⟨b0, hb0⟩ : ∃ x, w.heap.size = x := ⟨_, rfl⟩
    have hl := HL.out
    have n1 := (b1.block w.heap.size (by simp)).trans (heap_alloc_new w _)
    have h1 := H2.out.below b1
    obtain ⟨r0, r1, r2, r3, r4⟩ := files_row h1 HU.out
    have bw := below_box w' (.cells #[.int .i64 o.kind, .int .i64 o.num, .int .i64 o.at_, .int .i64 o.flags, .int .i64 o.refs] 58)
    have n2 := heap_alloc_new w' (.cells #[.int .i64 o.kind, .int .i64 o.num, .int .i64 o.at_, .int .i64 o.flags, .int .i64 o.refs] 58)
    obtain ⟨w1, hw1'⟩ : ∃ x, w'.alloc (.cells #[.int .i64 o.kind, .int .i64 o.num, .int .i64 o.at_, .int .i64 o.flags, .int .i64 o.refs] 58) = x := ⟨_, rfl⟩
    rw [hw1'] at bw n2
    have h2 := h1.below bw
    obtain ⟨p0, p1, p2, p3, p4⟩ := files_row h2 HU.out
    have q4 := files_free h2 (i * 5 + 4)
    have hst := HST.out w1 h2
    obtain ⟨w2, hw2⟩ : ∃ x, w1.setCell ⟨gs, i * 5 + 4, none⟩ (.int .i64 (o.refs - 1)) = x := ⟨_, rfl⟩
    rw [hw2] at hst
    obtain ⟨s0, s1, s2, s3, s4⟩ := files_row hst.1 (List.getElem?_set_self HI.out)
    have hl1 := files_lt h1
    obtain ⟨g9, hg9⟩ : ∃ x, w'.heap.size = x := ⟨_, rfl⟩
    have hb9 : b0 < g9 := by rw [← hb0, ← hg9]; exact (Array.getElem?_eq_some_iff.1 n1).1
    have hgs9 : gs < b0 := by rw [← hb0]; exact hl.2.1
    have hgb : g < b0 := by rw [← hb0]; exact hl.1
    rw [hg9] at n2
    rw [hb0] at n1
    have n1' := (bw.block b0 (by omega)).trans n1
    have n1'' := (hst.2.block b0 (Array.getElem?_eq_some_iff.1 n1').1 (by intro e; have : b0 = gs := Option.some.inj e; omega)).trans n1'
    have n2' := (hst.2.block g9 (Array.getElem?_eq_some_iff.1 n2).1 (by intro e; have : g9 = gs := Option.some.inj e; omega)).trans n2
    have HF := Lib.hid hst.1
    have HN1 := Lib.hid n1''
    have HN2 := Lib.hid n2'
    have HG : Hid (w.grownBy w2 (some gs)) := Lib.hid (grown_belowF (below_next (below_next HB0.out b1) bw) hst.2)
    have hko : knownB o' = decide (0 < o.refs - 1) := by rw [← HO'.out]; rfl
    clear b1 n1 n2 n1' n1'' n2' h1 h2 bw hst hl hl1
    go_wp2_with fail
    refine (known_is o' w2).mono ?_
    rintro e w3 ⟨rfl, b3⟩
    have HF3 := Lib.hid (HF.out.below b3)
    have m1 := (b3.block b0 (Array.getElem?_eq_some_iff.1 HN1.out).1).trans HN1.out
    have m2 := (b3.block g9 (Array.getElem?_eq_some_iff.1 HN2.out).1).trans HN2.out
    have HG3 : Hid (w.grownBy w3 (some gs)) := Lib.hid (grown_transF HG.out (grown_ofBelow b3))
    have HLB : Hid (w.heap.size ≤ b0 ∧ b0 ≠ g ∧ b0 ≠ gs ∧ g9 ≠ gs) := Lib.hid ⟨by omega, by omega, by omega, by omega⟩
    clear b3 p0 p1 p2 p3 p4 q4 s0 s1 s2 s3 s4 hw2 hg9 hb9 hgs9 hgb HN1 HN2 HF HG r0 r1 r2 r3 r4 hw1'
    by_cases hr : o.refs = 1
    · have hk' : knownB o' = false := by rw [hko, hr]; decide
      rw [hk']
      have hc := HCL.out
      rw [if_pos hr] at hc
      cases hc
      clear HCL hk' hko hr hb
      have HU3 := List.getElem?_set_self (l := fl) (a := o') HI.out
      have t0 := files_free HF3.out (i * 5)
      have t1 := files_free HF3.out (i * 5 + 1)
      have t2 := files_free HF3.out (i * 5 + 2)
      have t3 := files_free HF3.out (i * 5 + 3)
      have t4 := files_free HF3.out (i * 5 + 4)
      obtain ⟨s0, s1, s2, s3, s4⟩ := files_row HF3.out HU3
      have hp := files_put HF3.out HU3 zeroF
      rw [List.set_set] at hp
      obtain ⟨W4, hW4⟩ : ∃ x, put5 w3 gs i zeroF = x := ⟨_, rfl⟩
      rw [hW4] at hp
      have HP := Lib.hid hp
      clear HU3
      simp only [put5, zeroF] at hW4
      have m14 := (hp.2.block b0 (Array.getElem?_eq_some_iff.1 m1).1 (by intro e; exact HLB.out.2.2.1 (Option.some.inj e))).trans m1
      have m24 := (hp.2.block g9 (Array.getElem?_eq_some_iff.1 m2).1 (by intro e; exact HLB.out.2.2.2 (Option.some.inj e))).trans m2
      have x0 := cell_of_row m14 0
      have x1 := cell_of_row m14 1
      have x2 := cell_of_row m14 2
      have x3 := cell_of_row m14 3
      have x4 := cell_of_row m14 4
      have ff := fun i => frozen_of_row W4 b0 i _ _ m14
      have y0 := cell_of_row m24 0
      have y1 := cell_of_row m24 1
      have y2 := cell_of_row m24 2
      have y3 := cell_of_row m24 3
      have y4 := cell_of_row m24 4
      have hg5 := five_set (.int .i64 o.kind) (.int .i64 o.num) (.int .i64 o.at_) (.int .i64 o.flags) (.int .i64 o.refs) m14
      obtain ⟨W5, hW5⟩ : ∃ x, (((((W4.setCell ⟨b0, 0, none⟩ (.int .i64 o.kind)).setCell ⟨b0, 1, none⟩ (.int .i64 o.num)).setCell ⟨b0, 2, none⟩ (.int .i64 o.at_)).setCell ⟨b0, 3, none⟩ (.int .i64 o.flags)).setCell ⟨b0, 4, none⟩ (.int .i64 o.refs)) = x := ⟨_, rfl⟩
      rw [hW5] at hg5
      have G := Lib.hid hg5
      clear hg5
      clear m1 m2 m14 m24 hp
      go_wp2
      refine bodyPost_ret (results_file_two rfl _ _ b0 rfl G.out.1) rfl ?_
      exact ⟨rfl, HP.out.1.keptB G.out.2 HLB.out.2.1 HLB.out.2.2.1, grown_new (grown_transF HG3.out HP.out.2) G.out.2 HLB.out.1⟩
    · have hk' : knownB o' = true := by rw [hko]; exact decide_eq_true (by have := HK.out; unfold knownB at this; have h9 := of_decide_eq_true this; omega)
      rw [hk']
      have hc := HCL.out
      rw [if_neg hr, HO'.out] at hc
      cases hc
      clear HCL hk' hko hr
      have x0 := cell_of_row m1 0
      have x1 := cell_of_row m1 1
      have x2 := cell_of_row m1 2
      have x3 := cell_of_row m1 3
      have x4 := cell_of_row m1 4
      have ff := fun i => frozen_of_row w3 b0 i _ _ m1
      have y0 := cell_of_row m2 0
      have y1 := cell_of_row m2 1
      have y2 := cell_of_row m2 2
      have y3 := cell_of_row m2 3
      have y4 := cell_of_row m2 4
      have hg5 := five_set (.int .i64 o.kind) (.int .i64 o.num) (.int .i64 o.at_) (.int .i64 o.flags) (.int .i64 o.refs) m1
      obtain ⟨W5, hW5⟩ : ∃ x, (((((w3.setCell ⟨b0, 0, none⟩ (.int .i64 o.kind)).setCell ⟨b0, 1, none⟩ (.int .i64 o.num)).setCell ⟨b0, 2, none⟩ (.int .i64 o.at_)).setCell ⟨b0, 3, none⟩ (.int .i64 o.flags)).setCell ⟨b0, 4, none⟩ (.int .i64 o.refs)) = x := ⟨_, rfl⟩
      rw [hW5] at hg5
      have G := Lib.hid hg5
      clear hg5
      clear m1 m2
      go_wp2
      refine bodyPost_ret (results_file_two rfl _ _ b0 rfl G.out.1) rfl ?_
      exact ⟨rfl, HF3.out.keptB G.out.2 HLB.out.2.1 HLB.out.2.2.1, grown_new HG3.out G.out.2 HLB.out.1⟩
end Go.Proofs.Ytebkkbmplndcpaa

namespace Go.Proofs.Ytebkkbmplndcpaa
open Go.RowKit Go.Sort
set_option linter.unusedVariables false
set_option linter.unusedSimpArgs false
set_option maxRecDepth 100000

theorem sixteen {k : Nat} (h1 : 1 ≤ k) (h2 : k ≤ 16) : k = 1 ∨ k = 2 ∨ k = 3 ∨ k = 4 ∨ k = 5 ∨ k = 6 ∨ k = 7 ∨ k = 8 ∨ k = 9 ∨ k = 10 ∨ k = 11 ∨ k = 12 ∨ k = 13 ∨ k = 14 ∨ k = 15 ∨ k = 16 := by omega
set_option maxHeartbeats 2000000 in
theorem mul64_is (k : Nat) (h1 : 1 ≤ k) (h2 : k ≤ 16) (w : World) : Calls Try.prog 88 #[.int .u64 1, .int .u64 (k : Int)] w fun e w' => e = .returned (.tuple #[.int .u64 0, .int .u64 (k : Int)]) ∧ w = w' := by
  rcases sixteen h1 h2 with rfl | rfl | rfl | rfl | rfl | rfl | rfl | rfl | rfl | rfl | rfl | rfl | rfl | rfl | rfl | rfl <;>
  · go_enter Try.func88, Try.ntmps88
    go_wp2
    go_ret2
    exact ⟨rfl, rfl⟩
theorem bmul_is (k : Nat) (h1 : 1 ≤ k) (h2 : k ≤ 16) (w : World) : Calls Try.prog 84 #[.int .u64 1, .int .u64 (k : Int)] w fun e w' => e = .returned (.tuple #[.int .u64 0, .int .u64 (k : Int)]) ∧ w = w' := by
  have H := Lib.hid (mul64_is k h1 h2 w)
  go_enter Try.func84, Try.ntmps84
  go_wp2_with fail
  refine H.out.mono ?_
  rintro e w' ⟨rfl, rfl⟩
  go_wp2
  go_ret2
  exact ⟨rfl, rfl⟩
def oneV : Value := .int .i64 (-1)
def repL (k n : Nat) : List Value := List.replicate n oneV ++ List.replicate (k - n) (.int .i64 0)
theorem repL_length {k n : Nat} (h : n ≤ k) : (repL k n).length = k := by unfold repL; simp; omega
theorem repL_full (k : Nat) : repL k k = List.replicate k oneV := by unfold repL; simp
theorem repL_one {k n : Nat} (h : n ≤ k) : ∀ v ∈ repL k n, v.oneCell' = true := by
  intro v hv
  unfold repL at hv
  rcases List.mem_append.1 hv with hv | hv <;> (rw [List.eq_of_mem_replicate hv]; rfl)
theorem splice_rep {k n m : Nat} (h : n + m ≤ k) : splice (repL k n) n (List.replicate m oneV) = repL k (n + m) := by
  unfold splice repL
  rw [List.take_left' (by simp), List.length_replicate, List.drop_append, List.drop_of_length_le (by simp), List.length_replicate, List.nil_append, List.drop_replicate, ← List.append_assoc, List.replicate_append_replicate]
  congr 2
  omega
theorem made_zeros (k : Nat) : madeCells #[Value.int .i64 0] (k * 1) = (repL k 0).toArray := by
  rw [Nat.mul_one]
  apply Array.toList_inj.1
  show (madeCells #[Value.int .i64 0] k).toList = repL k 0
  apply List.ext_getElem?
  intro i
  rw [Array.getElem?_toList]
  have e : (repL k 0)[i]? = if i < k then some (.int .i64 0) else none := by
    unfold repL
    rw [List.replicate_zero, List.nil_append, Nat.sub_zero, List.getElem?_replicate]
  rw [e]
  unfold madeCells
  rw [Array.getElem?_map]
  by_cases hi : i < k
  · rw [Array.getElem?_range, if_pos hi, if_pos hi]
    show some ((#[Value.int .i64 0] : Array Value)[i % 1]!) = _
    rw [Nat.mod_one]
    rfl
  · rw [Array.getElem?_eq_none (by simp; omega), if_neg hi]
    rfl
theorem run_make_rowI (n : Nat) (hn : n ≤ 200) (w : World) :
    (Instr.makeSlice 37 (.int .i64 (n : Int)) (.int .i64 (n : Int))).run Try.prog w = .ok (.slice (some ⟨w.heap.size, 0, none⟩) n n) (w.alloc (.cells (repL n 0).toArray 3)) := by
  obtain ⟨i0, hi, hz0, hz1, hz2⟩ := info_parts info_int
  have hr := run_make (P := Try.prog) w 37 3 i0 (.int .i64 0) Try.underlying37 hi hz0 .i64 .i64 n n (by omega) (by omega) (by rw [hz2]; omega) (by omega)
  simp only [Int.toNat_natCast, hz1, Value.cells] at hr
  rw [made_zeros] at hr
  exact hr
set_option maxHeartbeats 2000000 in
theorem repeat_is (k : Nat) (h1 : 1 ≤ k) (h2 : k ≤ 16) (g : Nat) (w : World) (hg : w.heap[g]? = some (.cells #[oneV] 3 (0, 0))) :
    Calls Try.prog 60 #[.slice (some ⟨g, 0, none⟩) 1 1, .int .i64 (k : Int)] w fun e w' => ∃ gr, e = .returned (.slice (some ⟨gr, 0, none⟩) k k) ∧ w.heap.size ≤ gr ∧ w'.heap[gr]? = some (.cells (List.replicate k oneV).toArray 3 (0, 0)) ∧ Below w.heap.size w w' := by
  have hmk := fun W => run_make_rowI k (by omega) W
  have hk0 : ¬ (k : Int) < 0 := by omega
  have HM := Lib.hid (fun W => bmul_is k h1 h2 W)
  have HG := Lib.hid hg
  have e1 : IntKind.u64.wrap (k : Int) = (k : Int) := by rw [IntKind.wrap_u64]; omega
  have e2 : IntKind.i64.wrap (k : Int) = (k : Int) := IntWalk.i64_in _ (by omega)
  have e3 : ¬ (9223372036854775807 : Int) < (k : Int) := by omega
  clear hg
  go_enter Try.func60, Try.ntmps60
  go_wp2_with fail
  refine (HM.out w).mono ?_
  rintro e w' ⟨rfl, rfl⟩
  clear hk0
  have b1 := below_box w (.cells (repL k 0).toArray 3)
  have n1 := heap_alloc_new w (.cells (repL k 0).toArray 3)
  obtain ⟨w1, hw1⟩ : ∃ x, w.alloc (.cells (repL k 0).toArray 3) = x := ⟨_, rfl⟩
  rw [hw1] at b1 n1
  obtain ⟨gr, hgr⟩ : ∃ x, w.heap.size = x := ⟨_, rfl⟩
  have HGR := Lib.hid hgr
  rw [hgr] at n1
  have N1 := Lib.hid n1
  have B1 := Lib.hid b1
  have GG1 := Lib.hid ((b1.block g (Array.getElem?_eq_some_iff.1 HG.out).1).trans HG.out)
  clear b1 n1
  go_wp2_with (first
    | (refine wpList_copy_splice rfl _ _ 37 37 rfl 3 Try.underlying37 (by kernel_rfl) _ _ k k 1 1 rfl rfl gr 0 (repL k 0) 3 N1.out [oneV] (by show 1 = Nat.min 1 k; exact (Nat.min_eq_left h1).symm) (fun _ => ⟨rfl, ⟨g, 0, none⟩, rfl, fun j v hv => by cases j with
        | zero => cases hv; exact cell_of_row GG1.out 0
        | succ j => simp at hv⟩) (by rw [repL_length (Nat.zero_le _)]; simpa using h1) (by intro v hv; simp only [List.mem_singleton] at hv; subst hv; rfl) w.heap.size w B1.out (Nat.le_of_eq HGR.out) ?_; intro w2 hg2 hb2)
    | fail)
  have HC : Hid (w2.heap[gr]? = some (.cells (repL k 1).toArray 3 (0, 0))) := Lib.hid (by
    have h9 := hg2.out
    have e9 := splice_rep (k := k) (n := 0) (m := 1) (by omega)
    rw [Nat.zero_add] at e9
    rw [← e9]
    exact h9)
  have HB2 := Lib.hid hb2
  have HGG : Hid (w.heap.size ≤ gr) := Lib.hid (Nat.le_of_eq HGR.out)
  clear hg2 hb2 hw1 hgr hmk
  go_loopw [8] (fun v8 wr => ∃ n : Nat, 1 ≤ n ∧ n ≤ k ∧ v8 = .int .i64 (n : Int) ∧ Hid (wr.heap[gr]? = some (.cells (repL k n).toArray 3 (0, 0))) ∧ Hid (Below w.heap.size w wr)) (fun v8 _ => k - (intOf v8).toNat)
  case atStart => exact ⟨1, Nat.le_refl _, h1, rfl, HC, HB2⟩
  case round =>
    obtain ⟨n, hn1, hn2, rfl, HCC, HB⟩ := hrel
    clear HC HB2
    by_cases hlt : n < k
    · have hx1 : (n : Int) < (k : Int) := by omega
      have hx0 : (0 : Int) ≤ (n : Int) := by omega
      have hx2 : (n : Int) ≤ (k : Int) := by omega
      obtain ⟨m, hm⟩ : ∃ m, Nat.min n (k - n) = m := ⟨_, rfl⟩
      have hm1 : 1 ≤ m := by rw [← hm]; exact Nat.le_min.2 ⟨hn1, by omega⟩
      have hm2 : n + m ≤ k := by have : m ≤ k - n := by rw [← hm]; exact Nat.min_le_right _ _
                                 omega
      have hm3 : m ≤ n := by rw [← hm]; exact Nat.min_le_left _ _
      have HM2 := Lib.hid hm
      have HLE := Lib.hid (And.intro hm1 (And.intro hm2 hm3))
      have HNK := Lib.hid (And.intro hn1 hlt)
      have hkn : ¬ k = n := by omega
      have hwnm : IntKind.i64.wrap ((n : Int) + (m : Int)) = (n : Int) + (m : Int) := IntWalk.i64_in _ (by omega)
      clear hm hm3 hlt
      go_wp2_with fail
      refine wp_region_held_drew (S := fun _ => True) (by kernel_rfl) trivial (fun hHeld => ?_)
      have hcd : Hid (wr.drew.heap[gr]? = some (.cells (repL k n).toArray 3 (0, 0))) := HCC.out
      have hbd : Hid (Below w.heap.size w wr.drew) := Lib.hid HB.out.drew
      clear HCC HB
      generalize wr.drew = wd at *
      refine wpAnyH_take (i := 0) (v := .int .i64 (n : Int)) rfl (by kernel_rfl) (by kernel_rfl) (by kernel_rfl) (fun _ _ _ h => h) (Or.inl ⟨by rfl, by intro W hSw; clear hSw; go_simp⟩) (by assumption) ?_
      try simp only [List.getElem_toArray, List.getElem_cons_zero, List.getElem_cons_succ, Act.put, List.setIfInBounds_toArray, List.set_cons_zero, List.set_cons_succ]
      refine wpAnyH_take (i := 1) (v := .slice (some ⟨gr, 0, none⟩) k k) rfl (by kernel_rfl) (by kernel_rfl) (by kernel_rfl) (fun _ _ _ h => h) (Or.inl ⟨by rfl, by intro W hSw; clear hSw; go_simp⟩) (by assumption) ?_
      try simp only [List.getElem_toArray, List.getElem_cons_zero, List.getElem_cons_succ, Act.put, List.setIfInBounds_toArray, List.set_cons_zero, List.set_cons_succ]
      refine wpAnyH_take (i := 2) (v := .int .i64 (n : Int)) rfl (by kernel_rfl) (by kernel_rfl) (by kernel_rfl) (fun _ _ _ h => h) (Or.inl ⟨by rfl, by intro W hSw; clear hSw; go_simp⟩) (by assumption) ?_
      try simp only [List.getElem_toArray, List.getElem_cons_zero, List.getElem_cons_succ, Act.put, List.setIfInBounds_toArray, List.set_cons_zero, List.set_cons_succ]
      refine wpAnyH_take (i := 3) (v := .slice (some ⟨gr, n, none⟩) (k - n) (k - n)) rfl (by kernel_rfl) (by kernel_rfl) (by kernel_rfl) (fun _ _ _ h => h) (Or.inl ⟨by rfl, by intro W hSw; clear hSw; go_simp⟩) (by assumption) ?_
      try simp only [List.getElem_toArray, List.getElem_cons_zero, List.getElem_cons_succ, Act.put, List.setIfInBounds_toArray, List.set_cons_zero, List.set_cons_succ]
      refine wpAnyH_take (i := 4) (v := .slice (some ⟨gr, 0, none⟩) k k) rfl (by kernel_rfl) (by kernel_rfl) (by kernel_rfl) (fun _ _ _ h => h) (Or.inl ⟨by rfl, by intro W hSw; clear hSw; go_simp⟩) (by assumption) ?_
      try simp only [List.getElem_toArray, List.getElem_cons_zero, List.getElem_cons_succ, Act.put, List.setIfInBounds_toArray, List.set_cons_zero, List.set_cons_succ]
      refine wpAnyH_take (i := 5) (v := .int .i64 (n : Int)) rfl (by kernel_rfl) (by kernel_rfl) (by kernel_rfl) (fun _ _ _ h => h) (Or.inl ⟨by rfl, by intro W hSw; clear hSw; go_simp⟩) (by assumption) ?_
      try simp only [List.getElem_toArray, List.getElem_cons_zero, List.getElem_cons_succ, Act.put, List.setIfInBounds_toArray, List.set_cons_zero, List.set_cons_succ]
      refine wpAnyH_take (i := 6) (v := .slice (some ⟨gr, 0, none⟩) n k) rfl (by kernel_rfl) (by kernel_rfl) (by kernel_rfl) (fun _ _ _ h => h) (Or.inl ⟨by rfl, by intro W hSw; clear hSw; go_simp⟩) (by assumption) ?_
      try simp only [List.getElem_toArray, List.getElem_cons_zero, List.getElem_cons_succ, Act.put, List.setIfInBounds_toArray, List.set_cons_zero, List.set_cons_succ]
      refine wpAnyH_ready (rs := [7]) (by kernel_rfl) (by simp) ?_
      refine AllReadyH.cons rfl (fun K hK => ?_) AllReadyH.nil
      refine step_copy_splice rfl _ _ 37 37 rfl 3 Try.underlying37 (by kernel_rfl) (some ⟨gr, n, none⟩) (some ⟨gr, 0, none⟩) (k - n) (k - n) n k rfl rfl gr n (repL k n) 3 hcd.out (List.replicate m oneV) (by rw [List.length_replicate]; exact HM2.out.symm) (fun _ => ⟨rfl, ⟨gr, 0, none⟩, rfl, fun j v hv => ?_⟩) (by rw [List.length_replicate, repL_length (Nat.le_of_lt HNK.out.2)]; exact HLE.out.2.1) (by intro v hv; rw [List.eq_of_mem_replicate hv]; rfl) w.heap.size w hbd.out HGG.out ?_
      · rw [List.getElem?_replicate] at hv
        split at hv
        · rename_i hj
          cases hv
          rw [add_none]
          refine (cell_of_row hcd.out _).trans ?_
          have hj2 : j < n := by have := HLE.out.2.2; omega
          rw [List.getElem?_toArray, Nat.zero_add]
          unfold repL
          rw [List.getElem?_append_left (by simpa using hj2), List.getElem?_replicate, if_pos hj2]
        · cases hv
      intro w4 hg4 hb4
      rw [splice_rep HLE.out.2.1] at hg4
      rw [List.length_replicate]
      refine hK.out _ _ trivial (fun hH4 => ?_)
      clear hK K
      try simp only [List.getElem_toArray, List.getElem_cons_zero, List.getElem_cons_succ, Act.put, List.setIfInBounds_toArray, List.set_cons_zero, List.set_cons_succ]
      refine wpAnyH_take (i := 8) (v := .int .i64 ((n + m : Nat) : Int)) rfl (by kernel_rfl) (by kernel_rfl) (by kernel_rfl) (fun _ _ _ h => h) (Or.inl ⟨by rfl, by intro W hSw; clear hSw; go_simp⟩) (by assumption) ?_
      try simp only [List.getElem_toArray, List.getElem_cons_zero, List.getElem_cons_succ, Act.put, List.setIfInBounds_toArray, List.set_cons_zero, List.set_cons_succ]
      refine wpAnyH_take (i := 9) (v := .int .i64 ((n + m : Nat) : Int)) rfl (by kernel_rfl) (by kernel_rfl) (by kernel_rfl) (fun _ _ _ h => h) (Or.inl ⟨by rfl, by intro W hSw; clear hSw; go_simp⟩) (by assumption) ?_
      try simp only [List.getElem_toArray, List.getElem_cons_zero, List.getElem_cons_succ, Act.put, List.setIfInBounds_toArray, List.set_cons_zero, List.set_cons_succ]
      refine wpAnyH_done (by kernel_rfl) ?_ _
      have HB4 := Lib.hid hb4
      clear hH4 hHeld hcd hbd hb4
      go_wp2
      have h9 := HLE.out
      have h8 := HNK.out
      go_roundw
      case rel => exact ⟨n + m, by omega, h9.2.1, rfl, hg4, HB4⟩
      case measure => simp [intOf]; omega
    · obtain rfl : n = k := by omega
      have hx1 : ¬ (n : Int) < (n : Int) := by omega
      rw [repL_full] at HCC
      clear hlt
      go_wp2
      go_ret
      exact ⟨gr, rfl, HGG.out, HCC.out, HB.out⟩
end Go.Proofs.Ytebkkbmplndcpaa

namespace Go.Proofs.Ytebkkbmplndcpaa
open Go.RowKit Go.Sort
set_option linter.unusedVariables false
set_option linter.unusedSimpArgs false
set_option maxRecDepth 100000

def idV (l : List Int) : List Value := l.map (Value.int .i64)
theorem idV_length (l : List Int) : (idV l).length = l.length := by unfold idV; rw [List.length_map]
theorem idV_get {l : List Int} {i : Nat} {x : Int} (h : l[i]? = some x) : (idV l)[i]? = some (.int .i64 x) := by unfold idV; rw [List.getElem?_map, h]; rfl
theorem idV_set (l : List Int) (i : Nat) (x : Int) : (idV l).set i (.int .i64 x) = idV (l.set i x) := by unfold idV; rw [List.map_set]
theorem idV_one (l : List Int) : OneCells (idV l) := by
  intro u hu
  unfold idV at hu
  obtain ⟨x, _, rfl⟩ := List.mem_map.1 hu
  rfl
def IsSet (B : Nat) (w : World) (g gs cap : Nat) (ids : List Int) : Prop :=
  w.heap[g]? = some (.cells #[.slice (some ⟨gs, 0, none⟩) ids.length cap] 114 (0, 0)) ∧ OwnsV B w 3 (.slice (some ⟨gs, 0, none⟩) ids.length cap) (idV ids) ∧ B ≤ g ∧ 1 ≤ ids.length ∧ ids.length ≤ 16
theorem OwnsV.apartS {B : Nat} {w : World} {e t : TypeId} {v : Value} {l : List Value} {g : Nat} {C : Array Value} {fr : Nat × Nat} (h : OwnsV B w e v l) (hg : w.heap[g]? = some (.cells C t fr)) (hne : e ≠ t) : v.ownBlock ≠ some g := by
  obtain ⟨_, h⟩ := h
  rcases h with ⟨rfl, _⟩ | ⟨g', cap, cur, rfl, _, hg', _⟩
  · intro h; cases h
  · intro h
    obtain rfl : g' = g := by simpa [Value.ownBlock] using h
    rw [hg] at hg'
    simp at hg'
    exact hne hg'.2.1.symm
theorem IsSet.apart {B : Nat} {w : World} {g gs cap : Nat} {ids : List Int} (h : IsSet B w g gs cap ids) : gs ≠ g := by
  have := h.2.1.apartS h.1 (by decide)
  intro e
  exact this (by rw [e]; rfl)
theorem IsSet.below {B : Nat} {w w' : World} {g gs cap : Nat} {ids : List Int} (h : IsSet B w g gs cap ids) (b : Below w.heap.size w w') : IsSet B w' g gs cap ids :=
  ⟨(b.block g (Array.getElem?_eq_some_iff.1 h.1).1).trans h.1, h.2.1.below b, h.2.2⟩
theorem IsSet.less {B B' : Nat} {w : World} {g gs cap : Nat} {ids : List Int} (h : IsSet B w g gs cap ids) (hB : B' ≤ B) : IsSet B' w g gs cap ids := ⟨h.1, h.2.1.less hB, Nat.le_trans hB h.2.2.1, h.2.2.2⟩
theorem set_facts {B : Nat} {w : World} {g gs cap : Nat} {ids : List Int} (h : IsSet B w g gs cap ids) : w.cell? ⟨g, 0, none⟩ = some (.slice (some ⟨gs, 0, none⟩) ids.length cap) := by
  unfold World.cell?; rw [h.1]; rfl
theorem set_lt {B : Nat} {w : World} {g gs cap : Nat} {ids : List Int} (h : IsSet B w g gs cap ids) : g < w.heap.size ∧ gs < w.heap.size ∧ B ≤ gs := ⟨(Array.getElem?_eq_some_iff.1 h.1).1, (h.2.1.lt gs rfl).2, (h.2.1.lt gs rfl).1⟩
theorem set_cell {B : Nat} {w : World} {g gs cap : Nat} {ids : List Int} (h : IsSet B w g gs cap ids) {i : Nat} {x : Int} (hx : ids[i]? = some x) : w.cell? ⟨gs, i, none⟩ = some (.int .i64 x) := by
  have hh := h.2.1.head
  rw [idV_length] at hh
  rcases hh with ⟨e, _⟩ | ⟨g', cap', e, _, _, hc⟩
  · cases e
  · cases e
    exact hc.2.2 i _ (idV_get hx)
theorem set_free {B : Nat} {w : World} {g gs cap : Nat} {ids : List Int} (h : IsSet B w g gs cap ids) (j : Nat) : w.frozen? ⟨gs, j, none⟩ = false := h.2.1.frozen (idV_length ids) j
theorem set_store {B : Nat} {w : World} {g gs cap : Nat} {ids : List Int} (h : IsSet B w g gs cap ids) (i : Nat) (x : Int) :
    IsSet B (w.setCell ⟨gs, i, none⟩ (.int .i64 x)) g gs cap (ids.set i x) ∧ w.grownBy (w.setCell ⟨gs, i, none⟩ (.int .i64 x)) (some gs) := by
  have hs := h.2.1.stored (idV_length ids) i (.int .i64 x)
  rw [idV_set] at hs
  refine ⟨⟨?_, ?_, h.2.2.1, ?_⟩, hs.2⟩
  · rw [List.length_set, ← h.1]
    exact hs.2.block g (set_lt h).1 (by rw [Ne, Option.some.injEq]; exact fun e => h.apart e.symm)
  · rw [List.length_set]
    exact hs.1
  · rw [List.length_set]; exact h.2.2.2
theorem set_reads {B : Nat} {w : World} {g gs cap : Nat} {ids : List Int} (h : IsSet B w g gs cap ids) : ReadsV w (some ⟨gs, 0, none⟩) ids.length (idV ids) := by
  obtain ⟨a, c, hv, hr, _, _⟩ := h.2.1.reads
  rw [idV_length] at hv hr
  obtain ⟨rfl, _, _⟩ := Value.slice.inj hv
  exact hr
def SNewPost (w : World) (ids : List Int) (e : Ending) (w' : World) : Prop := ∃ g gs cap, e = .returned (.pointer (some ⟨g, 0, none⟩)) ∧ IsSet w.heap.size w' g gs cap ids ∧ Below w.heap.size w w'
set_option maxHeartbeats 1600000 in
theorem snew_is (n : Int) (w : World) (m : Nat) (hm : clampF 16 n = m) : Calls Try.prog 19 #[.int .i64 n] w (SNewPost w (List.replicate m (-1))) := by
  have hm2 : m ≤ 16 := by unfold clampF at hm; omega
  have hm1 : 1 ≤ m := by unfold clampF at hm; omega
  have HM := Lib.hid hm
  have HN := Lib.hid (And.intro hm1 hm2)
  clear hm
  have b1 := below_box w (.cells #[oneV] 3)
  have n1 := heap_alloc_new w (.cells #[oneV] 3)
  obtain ⟨w1, hw1⟩ : ∃ x, w.alloc (.cells #[.int .i64 (-1)] 3) = x := ⟨_, rfl⟩
  rw [show w.alloc (.cells #[oneV] 3) = w1 from hw1] at b1 n1
  have B1 := Lib.hid b1
  have N1 := Lib.hid n1
  obtain ⟨g0, hg0⟩ : ∃ x, w.heap.size = x := ⟨_, rfl⟩
  have HG0 := Lib.hid hg0
  rw [hg0] at N1
  clear b1 n1
  go_enter Try.func19, Try.ntmps19
  go_wp2_with fail
  refine (fupTo_is 16 n _).mono ?_
  rintro e w' ⟨rfl, rfl⟩
  rw [HM.out]
  go_wp2_with fail
  refine (repeat_is m HN.out.1 HN.out.2 g0 w1 N1.out).mono ?_
  rintro e w2 ⟨gr, rfl, hgr, hr, b2⟩
  have HR := Lib.hid hr
  have HB := Lib.hid (below_next B1.out b2)
  have HGR : Hid (w.heap.size ≤ gr) := Lib.hid (Nat.le_trans B1.out.size hgr)
  clear hr b2 hgr hw1 hg0
  go_wp2
  go_ret
  refine ⟨w2.heap.size, gr, m, rfl, ?_, HB.out.alloc HB.out.size _⟩
  have e1 : (List.replicate m (-1 : Int)).length = m := List.length_replicate
  have hown : OwnsV w.heap.size w2 3 (.slice (some ⟨gr, 0, none⟩) m m) (idV (List.replicate m (-1))) := by
    have e2 : (idV (List.replicate m (-1 : Int))).length = m := by rw [idV_length, e1]
    unfold OwnsV
    rw [e2]
    refine ⟨by rw [e2, Nat.mul_one], .inr ⟨gr, m, _, rfl, HGR.out, HR.out, Nat.le_refl _, by have := HN.out.2; unfold maxLen; omega, by simp, ?_⟩⟩
    rw [Nat.mul_one]
    unfold idV oneV
    simp
  refine ⟨?_, ?_, HB.out.size, by rw [e1]; exact HN.out⟩
  · rw [e1]
    exact heap_alloc_new w2 _
  · rw [e1]
    exact hown.alloc _
def hasS (ids : List Int) (n : Int) : Bool := decide (0 ≤ n) && decide (n < (ids.length : Int))
theorem shas_is {B : Nat} {w : World} {g gs cap : Nat} {ids : List Int} (h : IsSet B w g gs cap ids) (n : Int) :
    Calls Try.prog 68 #[.pointer (some ⟨g, 0, none⟩), .int .i64 n] w fun e w' => e = .returned (.bool (hasS ids n)) ∧ w = w' := by
  have c0 := set_facts h
  clear h
  unfold hasS
  by_cases h0 : 0 ≤ n
  · by_cases h1 : n < (ids.length : Int)
    · rw [decide_eq_true h0, decide_eq_true h1]
      go_enter Try.func68, Try.ntmps68
      go_wp2
      go_ret
      exact ⟨rfl, rfl⟩
    · rw [decide_eq_true h0, decide_eq_false h1]
      go_enter Try.func68, Try.ntmps68
      go_wp2
      go_ret
      exact ⟨rfl, rfl⟩
  · rw [decide_eq_false h0]
    go_enter Try.func68, Try.ntmps68
    go_wp2
    go_ret
    exact ⟨rfl, rfl⟩
/-- Which open file a fd is. -/
def getS (ids : List Int) (n : Int) : Int × Int := if 0 ≤ n then (match ids[n.toNat]? with | some x => if x = -1 then (0, 2) else (x, 0) | none => (0, 2)) else (0, 2)
theorem getS_yes {ids : List Int} {i : Nat} {x : Int} (h : ids[i]? = some x) (hx : x ≠ -1) : getS ids (i : Int) = (x, 0) := by
  unfold getS
  rw [if_pos (by omega), Int.toNat_natCast, h]
  simp [hx]
theorem getS_none {ids : List Int} {i : Nat} (h : ids[i]? = some (-1)) : getS ids (i : Int) = (0, 2) := by
  unfold getS
  rw [if_pos (by omega), Int.toNat_natCast, h]
  rfl
theorem getS_out {ids : List Int} {n : Int} (h : hasS ids n = false) : getS ids n = (0, 2) := by
  unfold getS
  unfold hasS at h
  by_cases h0 : 0 ≤ n
  · rw [if_pos h0]
    rw [decide_eq_true h0, Bool.true_and] at h
    have := of_decide_eq_false h
    rw [List.getElem?_eq_none (by omega)]
  · rw [if_neg h0]
theorem hasS_yes {ids : List Int} {n : Int} (h : hasS ids n = true) : ∃ (i : Nat) (x : Int), n = (i : Int) ∧ ids[i]? = some x ∧ i < ids.length := by
  unfold hasS at h
  rw [Bool.and_eq_true] at h
  have h0 := of_decide_eq_true h.1
  have h1 := of_decide_eq_true h.2
  exact ⟨n.toNat, ids[n.toNat]'(by omega), by omega, List.getElem?_eq_getElem _, by omega⟩
set_option maxHeartbeats 1000000 in
theorem sget_is {B : Nat} {w : World} {g gs cap : Nat} {ids : List Int} (h : IsSet B w g gs cap ids) (n : Int) :
    Calls Try.prog 28 #[.pointer (some ⟨g, 0, none⟩), .int .i64 n] w fun e w' => e = .returned (.tuple #[.int .i64 (getS ids n).1, .int .i64 (getS ids n).2]) ∧ w = w' := by
  have c0 := set_facts h
  have hs := shas_is h n
  have hlen := h.2.2.2.2
  cases hh : hasS ids n with
  | false =>
    rw [hh] at hs
    have HS := Lib.hid hs
    rw [getS_out hh]
    clear hs h hh
    go_enter Try.func28, Try.ntmps28
    go_wp2_with fail
    refine HS.out.mono ?_
    rintro e w' ⟨rfl, rfl⟩
    go_wp2
    go_ret2
    exact ⟨rfl, rfl⟩
  | true =>
    rw [hh] at hs
    have HS := Lib.hid hs
    obtain ⟨i, x, rfl, hx, hi⟩ := hasS_yes hh
    have c1 := set_cell h hx
    have hi2 : (i : Int) < (ids.length : Int) := by omega
    have hi0 : (0 : Int) ≤ (i : Int) := by omega
    by_cases h1 : x = -1
    · subst h1
      rw [getS_none hx]
      clear hs h hh hx hi
      go_enter Try.func28, Try.ntmps28
      go_wp2_with fail
      refine HS.out.mono ?_
      rintro e w' ⟨rfl, rfl⟩
      go_wp2
      go_ret2
      exact ⟨rfl, rfl⟩
    · rw [getS_yes hx h1]
      have hxb : (x == -1) = false := by simp [h1]
      clear hs h hh hx hi
      go_enter Try.func28, Try.ntmps28
      go_wp2_with fail
      refine HS.out.mono ?_
      rintro e w' ⟨rfl, rfl⟩
      go_wp2
      go_ret2
      exact ⟨rfl, rfl⟩
def SetPost (B : Nat) (w : World) (g gs cap : Nat) (ids : List Int) (v : Value) (e : Ending) (w' : World) : Prop :=
  e = .returned v ∧ IsSet B w' g gs cap ids ∧ w.grownBy w' (some gs)
def takeS (ids : List Int) (n : Int) : List Int × Int × Int := if (getS ids n).2 = 0 then (ids.set n.toNat (-1), (getS ids n).1, 0) else (ids, 0, 2)
set_option maxHeartbeats 1000000 in
theorem stake_is {B : Nat} {w : World} {g gs cap : Nat} {ids : List Int} (h : IsSet B w g gs cap ids) (n : Int) :
    Calls Try.prog 31 #[.pointer (some ⟨g, 0, none⟩), .int .i64 n] w (SetPost B w g gs cap (takeS ids n).1 (.tuple #[.int .i64 (takeS ids n).2.1, .int .i64 (takeS ids n).2.2])) := by
  have c0 := set_facts h
  have hg := sget_is h n
  have H := Lib.hid h
  have hlen := h.2.2.2.2
  by_cases hz : getS ids n = (0, 2)
  · have hq : takeS ids n = (ids, 0, 2) := by unfold takeS; rw [hz]; rfl
    rw [hq]
    rw [hz] at hg
    have HG := Lib.hid hg
    clear hg h hz hq
    go_enter Try.func31, Try.ntmps31
    go_wp2_with fail
    refine HG.out.mono ?_
    rintro e w' ⟨rfl, rfl⟩
    go_wp2
    go_ret2
    exact ⟨rfl, H.out, grown_same _ _⟩
  · have hh : hasS ids n = true := by
      cases hb : hasS ids n with
      | true => rfl
      | false => exact absurd (getS_out hb) hz
    obtain ⟨i, x, rfl, hx, hi⟩ := hasS_yes hh
    have hx1 : x ≠ -1 := fun e => hz (getS_none (by rw [hx, e]))
    have hq : takeS ids (i : Int) = (ids.set i (-1), x, 0) := by unfold takeS; rw [getS_yes hx hx1, if_pos rfl, Int.toNat_natCast]
    rw [hq]
    rw [getS_yes hx hx1] at hg
    have HG := Lib.hid hg
    have c1 := set_cell h hx
    have f1 := set_free h i
    have hst := Lib.hid (set_store h i (-1))
    have hi2 : (i : Int) < (ids.length : Int) := by omega
    have hi0 : (0 : Int) ≤ (i : Int) := by omega
    clear hg h hz hq hh hx hi hx1
    go_enter Try.func31, Try.ntmps31
    go_wp2_with fail
    refine HG.out.mono ?_
    rintro e w' ⟨rfl, rfl⟩
    go_wp2
    go_ret2
    exact ⟨rfl, hst.out.1, hst.out.2⟩
def atS (ids : List Int) (n id : Int) : List Int × Int × Int := if hasS ids n = false then (ids, 0, 2) else if id < 0 then (ids, 0, 1) else (ids.set n.toNat id, ids[n.toNat]?.getD 0, 0)
end Go.Proofs.Ytebkkbmplndcpaa
