/- Open files: Ref, Move, Close, Open, Count. -/
import Derived.Test.YtbpklbicbeckdaaGhdiepnml
namespace Go.Proofs.Ytbpklbicbeckdaa
open Go.RowKit Go.Sort
set_option linter.unusedVariables false
set_option linter.unusedSimpArgs false
set_option maxRecDepth 100000

def FilesPost (B : Nat) (w : World) (g gs : Nat) (fl : List FileD) (v : Value) (e : Ending) (w' : World) : Prop :=
  e = .returned v ∧ IsFiles B w' g gs fl ∧ w.grownBy w' (some gs)
theorem grown_belowF {w w1 w' : World} {row : Option Nat} (b : Below w.heap.size w w1) (h : w1.grownBy w' row) : w.grownBy w' row :=
  ⟨h.os.trans b.os, h.tape.trans b.tape, h.output.trans b.output, Nat.le_trans b.size h.size, fun k hk hne => (h.block k (Nat.lt_of_lt_of_le hk b.size) hne).trans (b.block k hk)⟩
theorem FilesPost.same {B : Nat} {w w' : World} {g gs : Nat} {fl : List FileD} (h : IsFiles B w g gs fl) (b : Below w.heap.size w w') (v : Value) : FilesPost B w g gs fl v (.returned v) w' := ⟨rfl, h.below b, grown_belowF b (grown_same _ _)⟩
/-- How often each is known: no more than so. -/
def FewRefs (k : Nat) (fl : List FileD) : Prop := ∀ o ∈ fl, 0 ≤ o.refs ∧ o.refs ≤ (k : Int)
def refF (fl : List FileD) (n : Int) : List FileD × Int := match openAt fl n with | some o => (fl.set n.toNat { o with refs := o.refs + 1 }, 0) | none => (fl, 2)
def moveF (fl : List FileD) (n at_ : Int) : List FileD × Int := match openAt fl n with | some o => if at_ < 0 then (fl, 1) else (fl.set n.toNat { o with at_ := at_ }, 0) | none => (fl, 2)
def closeF (fl : List FileD) (n : Int) : List FileD × FileD × Bool × Int := match openAt fl n with | some o => if o.refs = 1 then (fl.set n.toNat zeroF, o, true, 0) else (fl.set n.toNat { o with refs := o.refs - 1 }, o, false, 0) | none => (fl, zeroF, false, 2)
def badO (k n f : Int) : Prop := k < 1 ∨ 3 < k ∨ n < 1 ∨ f < 1 ∨ 7 < f
instance decBadO (k n f : Int) : Decidable (badO k n f) := by unfold badO; exact inferInstance
def openF (fl : List FileD) (k n f : Int) : List FileD × Int × Int := if badO k n f then (fl, 0, 1) else if firstI (fun o => !knownB o) fl < 0 then (fl, 0, 14) else (fl.set (firstI (fun o => !knownB o) fl).toNat ⟨k, n, 0, f, 1⟩, firstI (fun o => !knownB o) fl, 0)
def countF (fl : List FileD) : Nat := (placesL knownB fl fl.length).length
set_option maxHeartbeats 1000000 in
theorem fref_is {B : Nat} {w : World} {g gs : Nat} {fl : List FileD} (h : IsFiles B w g gs fl) (hf : FewRefs 1000 fl) (n : Int) :
    Calls Try.prog 27 #[.pointer (some ⟨g, 0, none⟩), .int .i64 n] w (FilesPost B w g gs (refF fl n).1 (.int .i64 (refF fl n).2)) := by
  have H := Lib.hid h
  clear h
  unfold refF
  cases ho : openAt fl n with
  | none =>
    have HO := Lib.hid ho
    clear ho
    go_enter Try.func27, Try.ntmps27
    go_wp2_with fail
    refine (ffind_no H.out n HO.out).mono ?_
    rintro e w' ⟨rfl, b1⟩
    have HB := Lib.hid b1
    clear b1
    go_wp2
    go_ret
    exact FilesPost.same H.out HB.out _
  | some o =>
    obtain ⟨i, rfl, hu, hk⟩ := openAt_some ho
    have hb := hf o (List.mem_of_getElem? hu)
    have HU := Lib.hid hu
    have HK := Lib.hid hk
    have HST := Lib.hid (fun (W : World) (hW : IsFiles B W g gs fl) => files_store (j := 4) hW hu (by decide) (.int .i64 (o.refs + 1)) (s' := { o with refs := o.refs + 1 }) rfl)
    have hw1 : IntKind.i64.wrap (o.refs + 1) = o.refs + 1 := IntWalk.i64_in _ (by omega)
    clear ho hu hk hf hb
    simp only [Int.toNat_natCast]
    go_enter Try.func27, Try.ntmps27
    go_wp2_with fail
    refine (ffind_yes H.out i o HU.out HK.out).mono ?_
    rintro e w' ⟨rfl, b1⟩
    have h1 := H.out.below b1
    obtain ⟨r0, r1, r2, r3, r4⟩ := files_row h1 HU.out
    have f4 := files_free h1 (i * 5 + 4)
    have hst := Lib.hid (HST.out w' h1)
    have HB := Lib.hid b1
    clear b1 h1
    go_wp2
    go_ret
    exact ⟨rfl, hst.out.1, grown_belowF HB.out hst.out.2⟩
set_option maxHeartbeats 1000000 in
theorem fmove_is {B : Nat} {w : World} {g gs : Nat} {fl : List FileD} (h : IsFiles B w g gs fl) (n at_ : Int) :
    Calls Try.prog 31 #[.pointer (some ⟨g, 0, none⟩), .int .i64 n, .int .i64 at_] w (FilesPost B w g gs (moveF fl n at_).1 (.int .i64 (moveF fl n at_).2)) := by
  have H := Lib.hid h
  clear h
  unfold moveF
  cases ho : openAt fl n with
  | none =>
    have HO := Lib.hid ho
    clear ho
    go_enter Try.func31, Try.ntmps31
    go_wp2_with fail
    refine (ffind_no H.out n HO.out).mono ?_
    rintro e w' ⟨rfl, b1⟩
    have HB := Lib.hid b1
    clear b1
    go_wp2
    go_ret
    exact FilesPost.same H.out HB.out _
  | some o =>
    obtain ⟨i, rfl, hu, hk⟩ := openAt_some ho
    have HU := Lib.hid hu
    have HK := Lib.hid hk
    have HST := Lib.hid (fun (W : World) (hW : IsFiles B W g gs fl) => files_store (j := 2) hW hu (by decide) (.int .i64 at_) (s' := { o with at_ := at_ }) rfl)
    clear ho hu hk
    simp only [Int.toNat_natCast]
    by_cases ha : at_ < 0
    · rw [if_pos ha]
      go_enter Try.func31, Try.ntmps31
      go_wp2_with fail
      refine (ffind_yes H.out i o HU.out HK.out).mono ?_
      rintro e w' ⟨rfl, b1⟩
      have HB := Lib.hid b1
      clear b1
      go_wp2
      go_ret
      exact FilesPost.same H.out HB.out _
    · rw [if_neg ha]
      go_enter Try.func31, Try.ntmps31
      go_wp2_with fail
      refine (ffind_yes H.out i o HU.out HK.out).mono ?_
      rintro e w' ⟨rfl, b1⟩
      have h1 := H.out.below b1
      obtain ⟨r0, r1, r2, r3, r4⟩ := files_row h1 HU.out
      have f2 := files_free h1 (i * 5 + 2)
      have hst := Lib.hid (HST.out w' h1)
      have HB := Lib.hid b1
      clear b1 h1
      go_wp2
      go_ret
      exact ⟨rfl, hst.out.1, grown_belowF HB.out hst.out.2⟩
theorem fcount_is {B : Nat} {w : World} {g gs : Nat} {fl : List FileD} (h : IsFiles B w g gs fl) :
    Calls Try.prog 47 #[.pointer (some ⟨g, 0, none⟩)] w fun e w' => e = .returned (.int .i64 (countF fl)) ∧ Below w.heap.size w w' := by
  have c0 := files_facts h
  have hlen := h.2.2.2.2
  have HPL := Lib.hid (places_file fl (some ⟨gs, 0, none⟩) fl.length w (files_reads h) (by omega) (fun _ => True) (fun _ _ => trivial) knownB 69 #[] enters_known (known_pred w))
  clear h
  obtain ⟨n, hn⟩ : ∃ n, countF fl = n := ⟨_, rfl⟩
  have HN : Hid ((natV (placesL knownB fl fl.length)).length = n) := Lib.hid (by rw [natV_length]; exact hn)
  rw [hn]
  clear hn
  go_enter Try.func47, Try.ntmps47
  go_wp2_with fail
  refine HPL.out.mono ?_
  rintro e w1 ⟨v, rfl, ho, b1⟩
  obtain ⟨a, cap, rfl, _, _, _⟩ := ho.reads
  rw [HN.out]
  have HB := Lib.hid b1
  clear ho b1
  go_wp2
  go_ret
  exact ⟨rfl, HB.out⟩
end Go.Proofs.Ytbpklbicbeckdaa
