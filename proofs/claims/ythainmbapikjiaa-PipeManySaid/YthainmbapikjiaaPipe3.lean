/- Pipes: Len, Ends, Add, Make, Count, Write, Read, by their walks. -/
import Derived.Test.YthainmbapikjiaaPipe2
namespace Go.Proofs.Ythainmbapikjiaa
open Go.RowKit Go.Sort
set_option linter.unusedVariables false
set_option linter.unusedSimpArgs false
set_option maxRecDepth 100000

theorem Reads.cellP {w : World} {a : Option Addr} {n : Nat} {l : List Nat} (h : Reads w a n l) {j : Nat} (hj : j < n) : ∃ b off, a = some ⟨b, off, none⟩ ∧ b < w.heap.size ∧ ∀ j, j < n → w.cell? ⟨b, off + j, none⟩ = some (.int .u8 ((l.getD j 0 : Nat) : Int)) := by
  obtain ⟨h1, _, h0 | ⟨b, off, e, hb, hc⟩⟩ := h
  · rw [h0] at h1; simp at h1; omega
  · exact ⟨b, off, e, hb, hc⟩
/-- What a pipe's call comes to: its answer, the pipes, nothing else touched. -/
def PipesPost (B : Nat) (w : World) (g gs : Nat) (fl : List PipeD) (v : Value) (e : Ending) (w' : World) : Prop := e = .returned v ∧ IsPipes B w' g gs fl ∧ w.grownBy w' (some gs)
set_option maxHeartbeats 1600000 in
theorem plen_is {B : Nat} {w : World} {g gs : Nat} {fl : List PipeD} (h : IsPipes B w g gs fl) (n : Int) (i : Nat) (hn : n = (i : Int) + 1) (s : PipeD) (hu : fl[i]? = some s) (hk : thereB s = true) :
    Calls Try.prog 21 #[.pointer (some ⟨g, 0, none⟩), .int .i64 n] w fun e w' => e = .returned (.tuple #[.int .i64 ((content s).length : Nat), .int .i64 0]) ∧ Below w.heap.size w w' := by
  have HF := Lib.hid (pfind_yes h n i hn s hu hk)
  have H := Lib.hid h
  have HU := Lib.hid hu
  rw [content_length]
  clear h hu hk hn
  go_enter Try.func21, Try.ntmps21
  go_wp2_with fail
  refine HF.out.mono ?_
  rintro e w1 ⟨rfl, b1⟩
  obtain ⟨r0, r1, r2, r3⟩ := pipes_row (H.out.below b1) HU.out
  have HB := Lib.hid b1
  clear b1
  go_wp2
  go_ret2
  exact ⟨rfl, HB.out⟩
def mayAddB (ends : Nat) (more : Int) : Bool := decide (-(ends : Int) ≤ more ∧ more ≤ 1000 - (ends : Int))
set_option maxHeartbeats 1600000 in
theorem mayAdd_is (ends : Nat) (he : ends ≤ 1000) (more : Int) (w : World) : Calls Try.prog 79 #[.int .i64 (ends : Int), .int .i64 more] w fun e w' => e = .returned (.bool (mayAddB ends more)) ∧ w = w' := by
  have hw1 : IntKind.i64.wrap (-(ends : Int)) = -(ends : Int) := IntWalk.i64_in _ (by omega)
  have hw2 : IntKind.i64.wrap (1000 - (ends : Int)) = 1000 - (ends : Int) := IntWalk.i64_in _ (by omega)
  unfold mayAddB
  by_cases h1 : -(ends : Int) ≤ more
  · by_cases h2 : more ≤ 1000 - (ends : Int)
    · rw [decide_eq_true ⟨h1, h2⟩]
      go_enter Try.func79, Try.ntmps79
      go_wp2
      go_ret
      exact ⟨rfl, rfl⟩
    · rw [decide_eq_false (by omega)]
      go_enter Try.func79, Try.ntmps79
      go_wp2
      go_ret
      exact ⟨rfl, rfl⟩
  · rw [decide_eq_false (by omega)]
    go_enter Try.func79, Try.ntmps79
    go_wp2
    go_ret
    exact ⟨rfl, rfl⟩
/-- So many ends more. -/
def endsP (s : PipeD) (m k : Int) : PipeD := { s with readers := ((s.readers : Int) + m).toNat, writers := ((s.writers : Int) + k).toNat }
theorem content_ends (s : PipeD) (m k : Int) : content (endsP s m k) = content s := rfl
set_option maxHeartbeats 1600000 in
theorem padd_yes {B : Nat} {w : World} {g gs : Nat} {fl : List PipeD} (h : IsPipes B w g gs fl) (n : Int) (i : Nat) (hn : n = (i : Int) + 1) (s : PipeD) (hu : fl[i]? = some s) (hk : thereB s = true) (m k : Int) (hm : mayAddB s.readers m = true) (hk2 : mayAddB s.writers k = true) :
    Calls Try.prog 22 #[.pointer (some ⟨g, 0, none⟩), .int .i64 n, .int .i64 m, .int .i64 k] w (PipesPost B w g gs (fl.set i (endsP s m k)) (.int .i64 0)) := by
  have HF := Lib.hid (pfind_yes h n i hn s hu hk)
  have hok := pipes_lts h hu
  have hi := (List.getElem?_eq_some_iff.1 hu).1
  obtain ⟨k1, k2, k3, k4, k5, k6⟩ := hok
  have HM1 := Lib.hid (fun W => mayAdd_is s.readers k4 m W)
  have HM2 := Lib.hid (fun W => mayAdd_is s.writers k5 k W)
  rw [hm] at HM1
  rw [hk2] at HM2
  unfold mayAddB at hm hk2
  obtain ⟨m1, m2⟩ := of_decide_eq_true hm
  obtain ⟨m3, m4⟩ := of_decide_eq_true hk2
  obtain ⟨r, hr⟩ := Int.eq_ofNat_of_zero_le (show 0 ≤ (s.readers : Int) + m by omega)
  obtain ⟨x, hx⟩ := Int.eq_ofNat_of_zero_le (show 0 ≤ (s.writers : Int) + k by omega)
  have hw1 : IntKind.i64.wrap ((s.readers : Int) + m) = (r : Int) := by rw [IntWalk.i64_in _ (by omega)]; exact hr
  have hw2 : IntKind.i64.wrap ((s.writers : Int) + k) = (x : Int) := by rw [IntWalk.i64_in _ (by omega)]; exact hx
  have hE : endsP s m k = { s with readers := r, writers := x } := by unfold endsP; rw [hr, hx]; rfl
  have h9 : Hid (∀ W, Below w.heap.size w W → ∃ W3, W3 = (W.setCell ⟨gs, i * 68 + 66, none⟩ (.int .i64 (r : Int))).setCell ⟨gs, i * 68 + 67, none⟩ (.int .i64 (x : Int)) ∧ IsPipes B W3 g gs (fl.set i (endsP s m k)) ∧ w.grownBy W3 (some gs) ∧ W.frozen? ⟨gs, i * 68 + 66, none⟩ = false ∧ (W.setCell ⟨gs, i * 68 + 66, none⟩ (.int .i64 (r : Int))).cell? ⟨gs, i * 68 + 67, none⟩ = some (.int .i64 (s.writers : Int)) ∧ (W.setCell ⟨gs, i * 68 + 66, none⟩ (.int .i64 (r : Int))).frozen? ⟨gs, i * 68 + 67, none⟩ = false) := Lib.hid (fun W hW => by
    have k0 := h.below hW
    have hok := pipes_lts k0 hu
    have s1 := pipes_store (j := 66) k0 hu (by decide) (.int .i64 (r : Int)) ((pipeV_sets s hok).2.2.1 r) (s' := { s with readers := r }) ⟨k1, k2, k3, by show r ≤ 1000; omega, k5, k6⟩
    have hu2 : (fl.set i { s with readers := r })[i]? = some { s with readers := r } := List.getElem?_set_self hi
    have hok2 := pipes_lts s1.1 hu2
    have s2 := pipes_store (j := 67) s1.1 hu2 (by decide) (.int .i64 (x : Int)) ((pipeV_sets _ hok2).2.2.2 x) (s' := { s with readers := r, writers := x }) ⟨k1, k2, k3, by show r ≤ 1000; omega, by show x ≤ 1000; omega, k6⟩
    rw [List.set_set, ← hE] at s2
    exact ⟨_, rfl, s2.1, grown_transP (grown_transP (grown_ofBelowP hW) s1.2) s2.2, pipes_free k0 _, (pipes_row s1.1 hu2).2.2.2, pipes_free s1.1 _⟩)
  have H := Lib.hid h
  have HU := Lib.hid hu
  clear h hu hk hn hm hk2 hE hr hx hi k1 k2 k3 k4 k5 k6 m1 m2 m3 m4
  go_enter Try.func22, Try.ntmps22
  go_wp2_with fail
  refine HF.out.mono ?_
  rintro e w1 ⟨rfl, b1⟩
  obtain ⟨r0, r1, r2, r3⟩ := pipes_row (H.out.below b1) HU.out
  have HB := Lib.hid b1
  clear b1 r0 r1
  go_wp2_with fail
  refine (HM1.out w1).mono ?_
  rintro e w2 ⟨rfl, rfl⟩
  go_wp2_with fail
  refine (HM2.out w1).mono ?_
  rintro e w2 ⟨rfl, rfl⟩
  obtain ⟨W3, hW3, hp3, hg3, f0, x1, f1⟩ := h9.out w1 HB.out
  have HP := Lib.hid (And.intro hp3 hg3)
  clear hp3 hg3 h9
  go_wp2
  rw [← hW3]
  clear hW3
  go_ret
  exact ⟨rfl, HP.out.1, HP.out.2⟩
def newP : PipeD := ⟨List.replicate 64 0, 0, 0, 1, 1⟩
theorem okP_newP : okP newP := ⟨rfl, by decide, by decide, by decide, by decide, okP_zero.2.2.2.2.2⟩
theorem content_newP : content newP = [] := rfl
theorem there_newP : thereB newP = true := rfl
theorem firstP_or {α : Type} (p : α → Bool) (l : List α) : (firstI p l = -1 ∧ ∀ s ∈ l, p s = false) ∨ ∃ (i : Nat) (s : α), firstI p l = (i : Int) ∧ l[i]? = some s ∧ p s = true ∧ ∀ (j : Nat) (t : α), j < i → l[j]? = some t → p t = false := by
  have key : ∀ k, k ≤ l.length → (placesL p l k = [] ∧ ∀ (j : Nat) (t : α), j < k → l[j]? = some t → p t = false) ∨ ∃ (i : Nat) (s : α), firstI p l = (i : Int) ∧ l[i]? = some s ∧ p s = true ∧ ∀ (j : Nat) (t : α), j < i → l[j]? = some t → p t = false := by
    intro k
    induction k with
    | zero => intro _; exact .inl ⟨rfl, fun j t hj => absurd hj (Nat.not_lt_zero _)⟩
    | succ k ih =>
      intro hk
      rcases ih (by omega) with ⟨h1, h2⟩ | h
      · obtain ⟨s, hs⟩ : ∃ s, l[k]? = some s := ⟨_, List.getElem?_eq_getElem (by omega)⟩
        cases hp : p s with
        | true => exact .inr ⟨k, s, firstI_hit h1 hs hp, hs, hp, h2⟩
        | false =>
          refine .inl ⟨(placesL_no hs hp).trans h1, fun j t hj ht => ?_⟩
          by_cases e : j = k
          · subst e; rw [hs] at ht; cases ht; exact hp
          · exact h2 j t (by omega) ht
      · exact .inr h
  rcases key l.length (Nat.le_refl _) with ⟨h1, h2⟩ | h
  · refine .inl ⟨by unfold firstI; rw [h1], fun s hs => ?_⟩
    obtain ⟨j, hj⟩ := List.mem_iff_getElem?.1 hs
    exact h2 j s (List.getElem?_eq_some_iff.1 hj).1 hj
  · exact .inr h
end Go.Proofs.Ythainmbapikjiaa
