/- The program's calls on the usage table: Segs, has, Get, Set, Count, Touch. -/
import Derived.Test.YtplkglepbedhoaaTab
import Derived.IntWalk
namespace Go.Proofs.Ytplkglepbedhoaa
open Go.RowKit Go.Sort
set_option linter.unusedVariables false
set_option linter.unusedSimpArgs false
set_option maxRecDepth 100000

theorem tsegs_is {B : Nat} {w : World} {g gs : Nat} {room : Int} {us : List UseD} (h : IsTab B w g gs room us) :
    Calls Try.prog 114 #[.pointer (some ⟨g, 0, none⟩)] w fun e w' => e = .returned (.int .i64 us.length) ∧ w = w' := by
  obtain ⟨c0, c1⟩ := tab_facts h
  clear h
  go_enter Try.func114, Try.ntmps114
  go_wp2
  go_ret
  exact ⟨rfl, rfl⟩
theorem thas_yes {B : Nat} {w : World} {g gs : Nat} {room : Int} {us : List UseD} (h : IsTab B w g gs room us) (i : Nat) (hi : i < us.length) :
    Calls Try.prog 104 #[.pointer (some ⟨g, 0, none⟩), .int .i64 i] w fun e w' => e = .returned (.bool true) ∧ w = w' := by
  obtain ⟨c0, c1⟩ := tab_facts h
  clear h
  have h1 : decide ((0 : Int) ≤ (i : Int)) = true := by simp
  have h2 : decide ((i : Int) < (us.length : Int)) = true := by simp; omega
  go_enter Try.func104, Try.ntmps104
  go_wp2
  go_ret
  exact ⟨rfl, rfl⟩
theorem thas_no {B : Nat} {w : World} {g gs : Nat} {room : Int} {us : List UseD} (h : IsTab B w g gs room us) (s : Int) (hs : s < 0 ∨ (us.length : Int) ≤ s) :
    Calls Try.prog 104 #[.pointer (some ⟨g, 0, none⟩), .int .i64 s] w fun e w' => e = .returned (.bool false) ∧ w = w' := by
  obtain ⟨c0, c1⟩ := tab_facts h
  clear h
  by_cases h0 : s < 0
  · have h1 : ¬ (0 : Int) ≤ s := by omega
    go_enter Try.func104, Try.ntmps104
    go_wp2
    go_ret
    exact ⟨rfl, rfl⟩
  · have h1 : (0 : Int) ≤ s := by omega
    have h2 : ¬ s < (us.length : Int) := by omega
    clear hs
    go_enter Try.func104, Try.ntmps104
    go_wp2
    go_ret
    exact ⟨rfl, rfl⟩
theorem isState_yes (n : Int) (w : World) (h0 : 0 ≤ n) (h1 : n ≤ 3) : Calls Try.prog 105 #[.int .i64 n] w fun e w' => e = .returned (.bool true) ∧ w = w' := by
  have h2 : n < 4 := by omega
  go_enter Try.func105, Try.ntmps105
  go_wp2
  go_ret
  exact ⟨rfl, rfl⟩
theorem isState_no (n : Int) (w : World) (h : n < 0 ∨ 3 < n) : Calls Try.prog 105 #[.int .i64 n] w fun e w' => e = .returned (.bool false) ∧ w = w' := by
  by_cases h0 : n < 0
  · have h1 : ¬ (0 : Int) ≤ n := by omega
    go_enter Try.func105, Try.ntmps105
    go_wp2
    go_ret
    exact ⟨rfl, rfl⟩
  · have h1 : (0 : Int) ≤ n := by omega
    have h2 : ¬ n < 4 := by omega
    clear h
    go_enter Try.func105, Try.ntmps105
    go_wp2
    go_ret
    exact ⟨rfl, rfl⟩
/-- What a call that changes the table leaves. -/
def TabPost (B : Nat) (w : World) (g gs : Nat) (room : Int) (us : List UseD) (v : Value) (e : Ending) (w' : World) : Prop :=
  e = .returned v ∧ IsTab B w' g gs room us ∧ w.grownBy w' (some gs)
theorem TabPost.same {B : Nat} {w : World} {g gs : Nat} {room : Int} {us : List UseD} (h : IsTab B w g gs room us) {v : Value} : TabPost B w g gs room us v (.returned v) w := ⟨rfl, h, grown_same _ _⟩
set_option maxHeartbeats 1000000 in
theorem tset_yes {B : Nat} {w : World} {g gs : Nat} {room : Int} {us : List UseD} (h : IsTab B w g gs room us) (i : Nat) (u : UseD) (hu : us[i]? = some u) (s : Int) (hs0 : 0 ≤ s) (hs1 : s ≤ 3) :
    Calls Try.prog 41 #[.pointer (some ⟨g, 0, none⟩), .int .i64 i, .int .i64 s] w (TabPost B w g gs room (us.set i ⟨u.live, s, u.age⟩) (.int .i64 0)) := by
  obtain ⟨c0, c1⟩ := tab_facts h
  obtain ⟨r0, r1, r2⟩ := tab_row h hu
  have hi := (List.getElem?_eq_some_iff.1 hu).1
  have ho : UseOk room u := h.2.2.2.2.2.2.2 u (List.mem_of_getElem? hu)
  have hst := tab_store (j := 1) h hu (by decide) (.int .i64 s) (u' := ⟨u.live, s, u.age⟩) rfl ⟨ho.1, ho.2.1, hs0, hs1, ho.2.2.2.2⟩
  have hfr := tab_free h (i * 3 + 1)
  have H := Lib.hid h
  have HST := Lib.hid hst
  have hi2 : (i : Int) < (us.length : Int) := by omega
  have hi0 : (0 : Int) ≤ (i : Int) := by omega
  have HI := Lib.hid hi
  clear h hst ho hu hi
  go_enter Try.func41, Try.ntmps41
  go_wp2_with fail
  refine (thas_yes H.out i HI.out).mono ?_
  rintro e w' ⟨rfl, rfl⟩
  go_wp2_with fail
  refine (isState_yes s _ hs0 hs1).mono ?_
  rintro e w' ⟨rfl, rfl⟩
  go_wp2
  go_ret
  exact ⟨rfl, HST.out.1, HST.out.2⟩
theorem tset_no {B : Nat} {w : World} {g gs : Nat} {room : Int} {us : List UseD} (h : IsTab B w g gs room us) (x s : Int) (hs : (x < 0 ∨ (us.length : Int) ≤ x) ∨ s < 0 ∨ 3 < s) :
    Calls Try.prog 41 #[.pointer (some ⟨g, 0, none⟩), .int .i64 x, .int .i64 s] w fun e w' => e = .returned (.int .i64 1) ∧ w = w' := by
  by_cases hx : x < 0 ∨ (us.length : Int) ≤ x
  · have H := Lib.hid h
    have HS := Lib.hid hx
    clear h hs hx
    go_enter Try.func41, Try.ntmps41
    go_wp2_with fail
    refine (thas_no H.out x HS.out).mono ?_
    rintro e w' ⟨rfl, rfl⟩
    go_wp2
    go_ret
    exact ⟨rfl, rfl⟩
  · have hs' : s < 0 ∨ 3 < s := by omega
    obtain ⟨i, rfl⟩ : ∃ i : Nat, x = i := Int.eq_ofNat_of_zero_le (by omega)
    have hi : i < us.length := by omega
    have H := Lib.hid h
    have HS := Lib.hid hs'
    have HI := Lib.hid hi
    clear h hs hx hs' hi
    go_enter Try.func41, Try.ntmps41
    go_wp2_with fail
    refine (thas_yes H.out i HI.out).mono ?_
    rintro e w' ⟨rfl, rfl⟩
    go_wp2_with fail
    refine (isState_no s _ HS.out).mono ?_
    rintro e w' ⟨rfl, rfl⟩
    go_wp2
    go_ret
    exact ⟨rfl, rfl⟩
set_option maxHeartbeats 1000000 in
theorem tcount_yes {B : Nat} {w : World} {g gs : Nat} {room : Int} {us : List UseD} (h : IsTab B w g gs room us) (i : Nat) (u : UseD) (hu : us[i]? = some u) (n : Int) (hn0 : -u.live ≤ n) (hn1 : n ≤ room - u.live) :
    Calls Try.prog 40 #[.pointer (some ⟨g, 0, none⟩), .int .i64 i, .int .i64 n] w (TabPost B w g gs room (us.set i ⟨u.live + n, u.state, u.age⟩) (.int .i64 0)) := by
  obtain ⟨c0, c1⟩ := tab_facts h
  obtain ⟨r0, r1, r2⟩ := tab_row h hu
  have hi := (List.getElem?_eq_some_iff.1 hu).1
  have ho : UseOk room u := h.2.2.2.2.2.2.2 u (List.mem_of_getElem? hu)
  have hst := fun W (hW : IsTab B W g gs room us) => tab_store (j := 0) hW hu (by decide) (.int .i64 (u.live + n)) (u' := ⟨u.live + n, u.state, u.age⟩) rfl ⟨by show 0 ≤ u.live + n; omega, by show u.live + n ≤ room; omega, ho.2.2⟩
  have hfr := tab_free h (i * 3)
  have H := Lib.hid h
  have HST := Lib.hid hst
  have hi2 : (i : Int) < (us.length : Int) := by omega
  have hi0 : (0 : Int) ≤ (i : Int) := by omega
  have HI := Lib.hid hi
  obtain ⟨o1, o2, _⟩ := ho
  have hr1 := h.2.2.2.1
  have hr2 := h.2.2.2.2.1
  have t1 : ¬ n < -u.live := by omega
  have t2 : ¬ room - u.live < n := by omega
  clear h hst hu hi
  go_enter Try.func40, Try.ntmps40
  go_wp2_with fail
  refine (thas_yes H.out i HI.out).mono ?_
  rintro e w' ⟨rfl, rfl⟩
  go_wp2
  have e1 : decide (n < -u.live) = false := by simpa using t1
  have e2 : decide (room - u.live < n) = false := by simpa using t2
  have e3 : IntKind.i64.wrap (-u.live) = -u.live := IntWalk.i64_in _ (by omega)
  have e4 : IntKind.i64.wrap (room - u.live) = room - u.live := IntWalk.i64_in _ (by omega)
  go_quiet (fail)
  clear e3 e4
  go_wp2
  go_ret
  have hh := HST.out _ (H.out.below (below_drewN w nq))
  exact ⟨rfl, hh.1, grown_of_drewN hh.2⟩
theorem tcount_no {B : Nat} {w : World} {g gs : Nat} {room : Int} {us : List UseD} (h : IsTab B w g gs room us) (x n : Int) (hs : x < 0 ∨ (us.length : Int) ≤ x) :
    Calls Try.prog 40 #[.pointer (some ⟨g, 0, none⟩), .int .i64 x, .int .i64 n] w (TabPost B w g gs room us (.int .i64 1)) := by
  have H := Lib.hid h
  have HS := Lib.hid hs
  clear h hs
  go_enter Try.func40, Try.ntmps40
  go_wp2_with fail
  refine (thas_no H.out x HS.out).mono ?_
  rintro e w' ⟨rfl, rfl⟩
  go_wp2
  go_ret
  exact TabPost.same H.out
set_option maxHeartbeats 1000000 in
theorem tcount_off {B : Nat} {w : World} {g gs : Nat} {room : Int} {us : List UseD} (h : IsTab B w g gs room us) (i : Nat) (u : UseD) (hu : us[i]? = some u) (n : Int) (hn : n < -u.live ∨ room - u.live < n) :
    Calls Try.prog 40 #[.pointer (some ⟨g, 0, none⟩), .int .i64 i, .int .i64 n] w (TabPost B w g gs room us (.int .i64 1)) := by
  obtain ⟨c0, c1⟩ := tab_facts h
  obtain ⟨r0, r1, r2⟩ := tab_row h hu
  have hi := (List.getElem?_eq_some_iff.1 hu).1
  have ho : UseOk room u := h.2.2.2.2.2.2.2 u (List.mem_of_getElem? hu)
  have H := Lib.hid h
  have hi2 : (i : Int) < (us.length : Int) := by omega
  have hi0 : (0 : Int) ≤ (i : Int) := by omega
  have HI := Lib.hid hi
  obtain ⟨o1, o2, _⟩ := ho
  have hr1 := h.2.2.2.1
  have hr2 := h.2.2.2.2.1
  have e3 : IntKind.i64.wrap (-u.live) = -u.live := IntWalk.i64_in _ (by omega)
  have e4 : IntKind.i64.wrap (room - u.live) = room - u.live := IntWalk.i64_in _ (by omega)
  have E3 := Lib.hid e3
  have E4 := Lib.hid e4
  clear h hu hi e3 e4
  by_cases hn1 : n < -u.live
  · have e1 : decide (n < -u.live) = true := by simpa using hn1
    clear hn
    go_enter Try.func40, Try.ntmps40
    go_wp2_with fail
    refine (thas_yes H.out i HI.out).mono ?_
    rintro e w' ⟨rfl, rfl⟩
    go_wp2
    have e3 := E3.out
    have e4 := E4.out
    go_quiet (fail)
    clear e3 e4
    go_wp2
    go_ret
    exact ⟨rfl, H.out.below (below_drewN w nq), grown_to_drewN (grown_same _ _)⟩
  · have hn2 : room - u.live < n := by omega
    have e1 : decide (n < -u.live) = false := by simpa using hn1
    have e2 : decide (room - u.live < n) = true := by simpa using hn2
    clear hn
    go_enter Try.func40, Try.ntmps40
    go_wp2_with fail
    refine (thas_yes H.out i HI.out).mono ?_
    rintro e w' ⟨rfl, rfl⟩
    go_wp2
    have e3 := E3.out
    have e4 := E4.out
    go_quiet (fail)
    clear e3 e4
    go_wp2
    go_ret
    exact ⟨rfl, H.out.below (below_drewN w nq), grown_to_drewN (grown_same _ _)⟩
end Go.Proofs.Ytplkglepbedhoaa
