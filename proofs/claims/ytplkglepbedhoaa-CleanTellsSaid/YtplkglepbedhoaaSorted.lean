/- usage.sorted: by halves. -/
import Derived.Test.YtplkglepbedhoaaMerge
import Derived.Deep.RegionHeld3
namespace Go.Proofs.Ytplkglepbedhoaa
open Go.RowKit Go.Sort
set_option linter.unusedVariables false
set_option linter.unusedSimpArgs false
set_option maxRecDepth 100000

def SortedPost (w : World) (n : Nat) (l : List Nat) (e : Ending) (w' : World) : Prop := ∃ a c, e = .returned (.slice a n c) ∧ ReadsV w' a n (natV l) ∧ n ≤ c ∧ Below w.heap.size w w'
theorem natV_drop (l : List Nat) (k : Nat) : natV (l.drop k) = (natV l).drop k := by unfold natV; rw [List.map_drop]
set_option maxHeartbeats 2000000 in
theorem sorted_is (N : Nat) : ∀ (l : List Nat) (a : Option Addr) (cap : Nat) (w : World) (hr : ReadsV w a l.length (natV l)) (hN : l.length ≤ N) (hn : l.length ≤ 100000) (hc : l.length ≤ cap) (S : Nat → Prop) (hS : ∀ x ∈ l, S x) (lt : Nat → Nat → Bool)
    (g : Nat) (lb : Array Value) (eg : ∀ args w, (callFunc g args).run Try.prog w = .ok (.enter g args) w) (hp : LessV g lb S lt w),
    Calls Try.prog 116 #[.slice a l.length cap, .func (.func g) #[] lb] w (SortedPost w l.length (sortL lt l)) := by
  induction N with
  | zero =>
    intro l a cap w hr hN hn hc S hS lt g lb eg hp
    have h0 : l = [] := List.eq_nil_of_length_eq_zero (by omega)
    subst h0
    have hs : sortL lt [] = [] := by unfold sortL; rfl
    rw [hs]
    have HR := Lib.hid hr
    clear hr hp hS hN
    show Calls Try.prog 116 #[.slice a 0 cap, .func (.func g) #[] lb] w _
    go_enter Try.func116, Try.ntmps116
    go_wp2
    go_ret
    exact ⟨a, cap, rfl, HR.out, Nat.zero_le _, Below.refl _ _⟩
  | succ N ih =>
    intro l a cap w hr hN hn hc S hS lt g lb eg hp
    by_cases h2 : l.length < 2
    · have hs : sortL lt l = l := by unfold sortL; rw [dif_pos h2]
      rw [hs]
      have HR := Lib.hid hr
      have ht : (l.length : Int) < 2 := by omega
      clear hr hp hS hN ih hs
      go_enter Try.func116, Try.ntmps116
      go_wp2
      go_ret
      exact ⟨a, cap, rfl, HR.out, hc, Below.refl _ _⟩
    · obtain ⟨n, hnn⟩ : ∃ n, l.length = n := ⟨_, rfl⟩
      obtain ⟨h, hh⟩ : ∃ h, n / 2 = h := ⟨_, rfl⟩
      have hs : sortL lt l = mergeL lt (sortL lt (l.take h)) (sortL lt (l.drop h)) := by
        conv => lhs; unfold sortL
        rw [dif_neg h2, hnn, hh]
      rw [hnn] at h2 hn hc hN hr ⊢
      have hl1 : (l.take h).length = h := by rw [List.length_take, hnn]; omega
      have hl2 : (l.drop h).length = n - h := by rw [List.length_drop, hnn]
      obtain ⟨b, off, rfl, hbw, hjunk⟩ := hr.at (natV_get (l := l) (k := 0) (x := l[0]'(by omega)) (List.getElem?_eq_getElem (by omega)))
      have IHA : Hid (∀ W, Below w.heap.size w W → Calls Try.prog 116 #[.slice (some ⟨b, off, none⟩) h cap, .func (.func g) #[] lb] W (SortedPost W h (sortL lt (l.take h)))) := by
        intro W hW
        have hrd := (hr.below hW).take (k := h) (by omega)
        rw [← natV_take] at hrd
        have := ih (l.take h) (some ⟨b, off, none⟩) cap W (by rw [hl1]; exact hrd) (by omega) (by omega) (by omega) S (fun x hx => hS x (List.mem_of_mem_take hx)) lt g lb eg (hp.below hW)
        rw [hl1] at this
        exact this
      have IHB : Hid (∀ W, Below w.heap.size w W → Calls Try.prog 116 #[.slice (some ⟨b, off + h, none⟩) (n - h) (cap - h), .func (.func g) #[] lb] W (SortedPost W (n - h) (sortL lt (l.drop h)))) := by
        intro W hW
        have hrd := (hr.below hW).drop h
        rw [← natV_drop] at hrd
        have := ih (l.drop h) (some ⟨b, off + h, none⟩) (cap - h) W (by rw [hl2]; exact hrd) (by omega) (by omega) (by omega) S (fun x hx => hS x (List.mem_of_mem_drop hx)) lt g lb eg (hp.below hW)
        rw [hl2] at this
        exact this
      have HM : Hid (∀ W a1 a2 c1 c2, Below w.heap.size w W → ReadsV W a1 h (natV (sortL lt (l.take h))) → ReadsV W a2 (n - h) (natV (sortL lt (l.drop h))) → n - h ≤ c2 → Calls Try.prog 187 #[.slice a1 h c1, .slice a2 (n - h) c2, .func (.func g) #[] lb] W (MergePost W (sortL lt l))) := by
        intro W a1 a2 c1 c2 hW q1 q2 hc2
        have k1 : (sortL lt (l.take h)).length = h := by rw [sortL_length, hl1]
        have k2 : (sortL lt (l.drop h)).length = n - h := by rw [sortL_length, hl2]
        have := merged_is (sortL lt (l.take h)) (sortL lt (l.drop h)) a1 a2 c1 c2 W (by rw [k1]; exact q1) (by rw [k2]; exact q2) (by rw [k1, k2]; omega) (by rw [k2]; exact hc2) S (fun x hx => hS x (List.mem_of_mem_take ((sortL_perm lt _).mem_iff.1 hx))) (fun x hx => hS x (List.mem_of_mem_drop ((sortL_perm lt _).mem_iff.1 hx))) lt g lb eg (hp.below hW)
        rw [k1, k2, ← hs] at this
        exact this
      have HL : Hid ((natV (sortL lt l)).length = n) := by show _ = _; rw [natV_length, sortL_length, hnn]
      have ht : ¬ (n : Int) < 2 := by omega
      have hq : (n : Int) / 2 = (h : Int) := by omega
      have hb1 : (0 : Int) ≤ (h : Int) := by omega
      have hb2 : (h : Int) ≤ (n : Int) := by omega
      have hb3 : (h : Int) ≤ (cap : Int) := by omega
      have hb4 : (h : Int) < (cap : Int) := by omega
      have hb5 : (n : Int) ≤ (cap : Int) := by omega
      have hb6 : h < cap := by omega
      have hb7 : h ≤ n := by omega
      generalize sortL lt l = M at *
      generalize sortL lt (l.take h) = LA at *
      generalize sortL lt (l.drop h) = LB at *
      clear hjunk
      clear hr hp hS hN ih hl1 hl2 hnn hs hh hbw
      go_enter Try.func116, Try.ntmps116
      go_wp2
      go_region_held3 (fun w' => Below w.heap.size w w')
        (first | exact Below.refl _ _ | exact below_drew _ | exact below_next (by assumption) bA | exact below_next (by assumption) bB | exact below_next (by assumption) bM)
        ((first
          | (go_at_call 116; (with_reducible refine (IHA.out _ (by assumption)).mono ?_); rintro e wA ⟨aA, cA, rfl, rdA, cA', bA⟩; try (have rdB := ReadsV.below rdB bA))
          | (go_at_call 116; (with_reducible refine (IHB.out _ (by assumption)).mono ?_); rintro e wB ⟨aB, cB, rfl, rdB, cB', bB⟩; try (have rdA := ReadsV.below rdA bB))
          | (go_at_call 187; (with_reducible refine (HM.out _ _ _ _ _ (by assumption) rdA rdB cB').mono ?_); rintro e wM ⟨vM, rfl, oM, bM⟩)))
      all_goals
        rename_i hHeld
        obtain ⟨aM, cM, hv, rdM, hcM, _⟩ := oM.reads
        rw [HL.out] at hv rdM hcM
        subst hv
        go_wp2
        go_ret
        exact ⟨_, _, rfl, rdM, hcM, hHeld⟩
end Go.Proofs.Ytplkglepbedhoaa
