/- A disk in memory, and the program's small calls on it, by their walks. -/
import Derived.Test.YthainmbapikjiaaGolajpbmh
import Derived.Test.YthainmbapikjiaaHush
namespace Go.Proofs.Ythainmbapikjiaa
open Go.RowKit Go.Sort
set_option linter.unusedVariables false
set_option maxRecDepth 100000

/-- A disk as a plain thing; its sectors' slice may have room behind them, with whatever in it. -/
structure DiskD where
  dead : Bool
  armed : Bool
  left : Nat
  secs : List (List Nat)
  cache : List (Nat × List Nat)
  deeds : Nat
  room : Nat
  junk : List Value
def secV (l : List (List Nat)) : List Value := l.flatMap fun s => s.map byteV
def wrV (p : Nat × List Nat) : List Value := .int .i64 p.1 :: p.2.map byteV
def cacheV (l : List (Nat × List Nat)) : List Value := l.flatMap wrV
/-- The disk's own cells. -/
def headV (D : DiskD) (gs : Nat) (cv : Value) : Array Value := #[.bool D.dead, .bool D.armed, .int .i64 D.left, .slice (some ⟨gs, 0, none⟩) D.secs.length D.room, cv, .int .i64 D.deeds]
/-- It may be a disk: whole sectors, whose numbers are there. -/
def DiskD.ok (D : DiskD) : Prop := (∀ s ∈ D.secs, s.length = 128 ∧ Bytes s) ∧ (∀ p ∈ D.cache, p.1 < D.secs.length ∧ p.2.length = 128 ∧ Bytes p.2) ∧ 1 ≤ D.secs.length ∧ D.secs.length ≤ 65536 ∧ D.cache.length ≤ 1000000 ∧ D.deeds ≤ 1000000 ∧ D.left ≤ 9223372036854775807
def IsDisk (B : Nat) (w : World) (g gs : Nat) (cv : Value) (D : DiskD) : Prop :=
  w.heap[g]? = some (.cells (headV D gs cv) 126 (0, 0)) ∧ w.heap[gs]? = some (.cells (secV D.secs ++ D.junk).toArray 106 (0, 0)) ∧
  w.ownsRow B 130 129 cv D.cache.length (cacheV D.cache) ∧ D.ok ∧ B ≤ g ∧ B ≤ gs

theorem head_facts {w : World} {g gs : Nat} {cv : Value} {D : DiskD} (h : w.heap[g]? = some (.cells (headV D gs cv) 126 (0, 0))) :
    w.cell? ⟨g, 0, none⟩ = some (.bool D.dead) ∧ w.cell? ⟨g, 1, none⟩ = some (.bool D.armed) ∧ w.cell? ⟨g, 2, none⟩ = some (.int .i64 D.left) ∧ w.cell? ⟨g, 3, none⟩ = some (.slice (some ⟨gs, 0, none⟩) D.secs.length D.room) ∧
    w.cell? ⟨g, 4, none⟩ = some cv ∧ w.cell? ⟨g, 5, none⟩ = some (.int .i64 D.deeds) := by
  refine ⟨?_, ?_, ?_, ?_, ?_, ?_⟩ <;> (unfold World.cell?; rw [h]; rfl)
theorem head_free {w : World} {g gs : Nat} {cv : Value} {D : DiskD} (h : w.heap[g]? = some (.cells (headV D gs cv) 126 (0, 0))) (i : Nat) : w.frozen? ⟨g, i, none⟩ = false := frozen_of_row _ _ _ _ _ h

theorem dsize_is {B : Nat} {w : World} {g gs : Nat} {cv : Value} {D : DiskD} (h : IsDisk B w g gs cv D) :
    Calls Try.prog 68 #[.pointer (some ⟨g, 0, none⟩)] w fun e w' => e = .returned (.int .i64 D.secs.length) ∧ w = w' := by
  obtain ⟨c0, c1, c2, c3, c4, c5⟩ := head_facts h.1
  go_enter Try.func68, Try.ntmps68
  go_wp2
  go_ret
  exact ⟨rfl, rfl⟩
theorem ddead_is {B : Nat} {w : World} {g gs : Nat} {cv : Value} {D : DiskD} (h : IsDisk B w g gs cv D) :
    Calls Try.prog 69 #[.pointer (some ⟨g, 0, none⟩)] w fun e w' => e = .returned (.bool D.dead) ∧ w = w' := by
  obtain ⟨c0, c1, c2, c3, c4, c5⟩ := head_facts h.1
  go_enter Try.func69, Try.ntmps69
  go_wp2
  go_ret
  exact ⟨rfl, rfl⟩
theorem ddeeds_is {B : Nat} {w : World} {g gs : Nat} {cv : Value} {D : DiskD} (h : IsDisk B w g gs cv D) :
    Calls Try.prog 70 #[.pointer (some ⟨g, 0, none⟩)] w fun e w' => e = .returned (.int .i64 D.deeds) ∧ w = w' := by
  obtain ⟨c0, c1, c2, c3, c4, c5⟩ := head_facts h.1
  go_enter Try.func70, Try.ntmps70
  go_wp2
  go_ret
  exact ⟨rfl, rfl⟩

/-- Why a sector can't be read or written. -/
def refI (D : DiskD) (at_ : Int) : Int := if at_ < 0 ∨ (D.secs.length : Int) ≤ at_ then 1 else if D.dead then 20 else 0
theorem drefusal_is {B : Nat} {w : World} {g gs : Nat} {cv : Value} {D : DiskD} (at_ : Int) (h : IsDisk B w g gs cv D) :
    Calls Try.prog 113 #[.pointer (some ⟨g, 0, none⟩), .int .i64 at_] w fun e w' => e = .returned (.int .i64 (refI D at_)) ∧ w = w' := by
  obtain ⟨c0, c1, c2, c3, c4, c5⟩ := head_facts h.1
  clear h
  by_cases h1 : at_ < 0
  · have HE : Hid (refI D at_ = 1) := if_pos (.inl h1)
    go_enter Try.func113, Try.ntmps113
    go_wp2
    go_ret
    exact ⟨ret_int HE.out.symm, rfl⟩
  by_cases h2 : (D.secs.length : Int) ≤ at_
  · have HE : Hid (refI D at_ = 1) := if_pos (.inr h2)
    go_enter Try.func113, Try.ntmps113
    go_wp2
    go_ret
    exact ⟨ret_int HE.out.symm, rfl⟩
  have hno : ¬ (at_ < 0 ∨ (D.secs.length : Int) ≤ at_) := by omega
  have e2 : refI D at_ = if D.dead then 20 else 0 := if_neg hno
  cases hd : D.dead with
  | true =>
    have HE : Hid (refI D at_ = 20) := by show _ = _; rw [e2, hd]; rfl
    rw [hd] at c0
    clear e2 hno hd
    go_enter Try.func113, Try.ntmps113
    go_wp2
    go_ret
    exact ⟨ret_int HE.out.symm, rfl⟩
  | false =>
    have HE : Hid (refI D at_ = 0) := by show _ = _; rw [e2, hd]; rfl
    rw [hd] at c0
    clear e2 hno hd
    go_enter Try.func113, Try.ntmps113
    go_wp2
    go_ret
    exact ⟨ret_int HE.out.symm, rfl⟩

/-! ### Deeds -/
def strikeB (D : DiskD) : Bool := D.dead || (D.armed && decide (D.left = 0))
def strikeD (D : DiskD) : DiskD := { D with dead := strikeB D, left := if D.armed && !strikeB D then D.left - 1 else D.left }
/-- Of a disk's own block, and of nothing else, is told anew. -/
def Head (w : World) (g gs : Nat) (cv : Value) (D : DiskD) : Prop := w.heap[g]? = some (.cells (headV D gs cv) 126 (0, 0))
theorem head_set {w : World} {g gs : Nat} {cv : Value} {D D' : DiskD} (i : Nat) (v : Value) (h : Head w g gs cv D) (e : (headV D gs cv).setIfInBounds i v = headV D' gs cv) : Head (w.setCell ⟨g, i, none⟩ v) g gs cv D' := by
  show _ = _
  rw [heap_setCell_same w g i _ _ v h, e]

theorem strike_is {w : World} {g gs : Nat} {cv : Value} {D : DiskD} (h : Head w g gs cv D) (hl : D.left ≤ 9223372036854775807) :
    Calls Try.prog 131 #[.pointer (some ⟨g, 0, none⟩)] w fun e w' => e = .returned (.bool (strikeB D)) ∧ Head w' g gs cv (strikeD D) ∧ Only g w w' := by
  obtain ⟨c0, c1, c2, c3, c4, c5⟩ := head_facts h
  have f0 := head_free h 0
  have f2 := head_free h 2
  have o0 := Only.refl g w
  have H := Lib.hid h
  clear c3 c4 c5 h
  cases hd : D.dead with
  | true =>
    have e1 : strikeB D = true := by unfold strikeB; rw [hd]; rfl
    have HE := Lib.hid e1
    have HD : Hid (strikeD D = D) := by
      show _ = _
      unfold strikeD
      rw [e1, Bool.not_true, Bool.and_false, if_neg (by decide)]
      cases D; simp at hd; subst hd; rfl
    have HS : Hid ((headV D gs cv).setIfInBounds 0 (.bool true) = headV D gs cv) := by show _ = _; unfold headV; rw [hd]; rfl
    rw [hd] at c0
    clear e1 hd
    cases ha : D.armed with
    | true =>
      rw [ha] at c1
      clear ha
      go_enter Try.func131, Try.ntmps131
      go_wp2
      go_ret
      exact ⟨by rw [HE.out]; rfl, by rw [HD.out]; exact head_set 0 _ H.out HS.out, o0.setCell 0 _⟩
    | false =>
      rw [ha] at c1
      clear ha
      go_enter Try.func131, Try.ntmps131
      go_wp2
      go_ret
      exact ⟨by rw [HE.out]; rfl, by rw [HD.out]; exact head_set 0 _ H.out HS.out, o0.setCell 0 _⟩
  | false =>
    rw [hd] at c0
    cases ha : D.armed with
    | false =>
      have e1 : strikeB D = false := by unfold strikeB; rw [hd, ha]; rfl
      have HE := Lib.hid e1
      have HD : Hid (strikeD D = D) := by
        show _ = _
        unfold strikeD
        rw [e1, ha, Bool.false_and, if_neg (by decide)]
        cases D; simp at hd ha; subst hd ha; rfl
      have HS : Hid ((headV D gs cv).setIfInBounds 0 (.bool false) = headV D gs cv) := by show _ = _; unfold headV; rw [hd]; rfl
      rw [ha] at c1
      clear e1 hd ha
      go_enter Try.func131, Try.ntmps131
      go_wp2
      go_ret
      exact ⟨by rw [HE.out]; rfl, by rw [HD.out]; exact head_set 0 _ H.out HS.out, o0.setCell 0 _⟩
    | true =>
      rw [ha] at c1
      by_cases h0 : D.left = 0
      · have e1 : strikeB D = true := by unfold strikeB; rw [hd, ha, h0]; rfl
        have HE := Lib.hid e1
        have HS : Hid ((headV D gs cv).setIfInBounds 0 (.bool true) = headV (strikeD D) gs cv) := by
          show _ = _
          unfold headV strikeD
          rw [e1, Bool.not_true, Bool.and_false, if_neg (by decide)]
          rfl
        have hz : ((D.left : Int) == 0) = true := by simp [h0]
        clear e1 hd ha h0
        go_enter Try.func131, Try.ntmps131
        go_wp2
        go_ret
        exact ⟨by rw [HE.out]; rfl, head_set 0 _ H.out HS.out, o0.setCell 0 _⟩
      · have e1 : strikeB D = false := by unfold strikeB; rw [hd, ha]; simp [h0]
        have HE := Lib.hid e1
        have HS : Hid ((headV D gs cv).setIfInBounds 0 (.bool false) = headV D gs cv) := by show _ = _; unfold headV; rw [hd]; rfl
        have HS2 : Hid ((headV D gs cv).setIfInBounds 2 (.int .i64 ((D.left : Int) - 1)) = headV (strikeD D) gs cv) := by
          show _ = _
          have el : ((D.left : Int) - 1) = ((D.left - 1 : Nat) : Int) := by omega
          rw [el]
          unfold headV strikeD
          rw [e1, ha, Bool.not_false, Bool.and_true, if_pos rfl, hd]
          rfl
        have hz : ((D.left : Int) == 0) = false := by simp [h0]
        have hle : (D.left : Int) ≤ 9223372036854775807 := by omega
        clear e1 hd ha h0
        go_enter Try.func131, Try.ntmps131
        go_wp2
        go_ret
        exact ⟨by rw [HE.out]; rfl, head_set 2 _ (head_set 0 _ H.out HS.out) HS2.out, (o0.setCell 0 _).setCell 2 _⟩

def deedD (D : DiskD) : DiskD := if strikeB D then strikeD D else { strikeD D with deeds := D.deeds + 1 }
def deedE (D : DiskD) : Int := if strikeB D then 20 else 0
theorem deed_is {w : World} {g gs : Nat} {cv : Value} {D : DiskD} (h : Head w g gs cv D) (hl : D.left ≤ 9223372036854775807) (hd : D.deeds ≤ 1000000) :
    Calls Try.prog 114 #[.pointer (some ⟨g, 0, none⟩)] w fun e w' => e = .returned (.int .i64 (deedE D)) ∧ Head w' g gs cv (deedD D) ∧ Only g w w' := by
  obtain ⟨c0, c1, c2, c3, c4, c5⟩ := head_facts h
  have H := Lib.hid h
  clear h
  cases hs : strikeB D with
  | true =>
    have HE : Hid (deedD D = strikeD D) := by show _ = _; unfold deedD; rw [if_pos hs]
    have HSB := Lib.hid hs
    have HDE : Hid (deedE D = 20) := by show _ = _; unfold deedE; rw [hs]; rfl
    clear hs
    go_enter Try.func114, Try.ntmps114
    go_wp2_with fail
    refine (strike_is H.out hl).mono ?_
    rintro e w1 ⟨rfl, h1, o1⟩
    rw [HSB.out]
    go_wp2
    go_ret
    exact ⟨by rw [HDE.out]; rfl, by rw [HE.out]; exact h1, o1⟩
  | false =>
    have HE : Hid (deedD D = { strikeD D with deeds := D.deeds + 1 }) := by show _ = _; unfold deedD; rw [if_neg (by rw [hs]; decide)]
    have HSB := Lib.hid hs
    have HDE : Hid (deedE D = 0) := by show _ = _; unfold deedE; rw [hs]; rfl
    clear hs
    go_enter Try.func114, Try.ntmps114
    go_wp2_with fail
    refine (strike_is H.out hl).mono ?_
    rintro e w1 ⟨rfl, h1, o1⟩
    rw [HSB.out]
    have g5 : w1.cell? ⟨g, 5, none⟩ = some (.int .i64 D.deeds) := (head_facts h1).2.2.2.2.2
    have f5 := head_free h1 5
    have H1 := Lib.hid h1
    clear h1 c0 c1 c2 c3 c4 c5
    go_wp2
    go_ret
    refine ⟨by rw [HDE.out]; rfl, ?_, o1.setCell 5 _⟩
    rw [HE.out]
    exact head_set 5 _ H1.out rfl
end Go.Proofs.Ythainmbapikjiaa
