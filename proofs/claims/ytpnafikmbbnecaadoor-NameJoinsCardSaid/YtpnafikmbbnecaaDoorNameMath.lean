/- Paths as lists of bytes: pieces between slashes, parts, what is refused, texts. No run of the model. -/
import Derived.Lib.SplitLaws
namespace Go.Proofs.YtpnafikmbbnecaaDoor
set_option linter.unusedVariables false

abbrev Bs := List UInt8
/-- The pieces, one of them under way. -/
def cutP (cur : Bs) : Bs → List Bs
  | [] => [cur]
  | c :: l => if c = 47 then cur :: cutP [] l else cutP (cur ++ [c]) l
def pieces (l : Bs) : List Bs := cutP [] l
theorem cutP_nil (cur : Bs) : cutP cur [] = [cur] := rfl
theorem cutP_slash (cur l : Bs) : cutP cur (47 :: l) = cur :: cutP [] l := by simp [cutP]
theorem cutP_other {c : UInt8} (h : c ≠ 47) (cur l : Bs) : cutP cur (c :: l) = cutP (cur ++ [c]) l := by rw [cutP, if_neg h]
theorem cutP_ne (l : Bs) : ∀ cur, cutP cur l ≠ [] := by
  induction l with
  | nil => intro cur; simp [cutP]
  | cons c l ih =>
    intro cur
    by_cases h : c = 47
    · subst h; rw [cutP_slash]; simp
    · rw [cutP_other h]; exact ih _
/-- Without a slash: one piece. -/
theorem cutP_plain (m : Bs) : ∀ cur l : Bs, (47 : UInt8) ∉ m → cutP cur (m ++ l) = cutP (cur ++ m) l := by
  induction m with
  | nil => intro cur l _; simp
  | cons c m ih =>
    intro cur l h
    have hc : c ≠ 47 := fun e => h (by rw [e]; simp)
    rw [List.cons_append, cutP_other hc, ih _ _ (fun hh => h (by simp [hh]))]
    simp
theorem pieces_plain {m : Bs} (h : (47 : UInt8) ∉ m) : pieces m = [m] := by
  have := cutP_plain m [] [] h
  rw [List.append_nil, List.nil_append] at this
  exact this
theorem pieces_cons {m : Bs} (h : (47 : UInt8) ∉ m) (l : Bs) : pieces (m ++ 47 :: l) = m :: pieces l := by
  unfold pieces
  rw [cutP_plain m [] _ h, List.nil_append, cutP_slash]
/-- No piece has a slash, and all bytes of pieces stand in the text. -/
theorem cutP_mem (l : Bs) : ∀ cur p, (47 : UInt8) ∉ cur → p ∈ cutP cur l → (47 : UInt8) ∉ p ∧ ∀ x ∈ p, x ∈ cur ∨ x ∈ l := by
  induction l with
  | nil => intro cur p h hp; simp [cutP] at hp; subst hp; exact ⟨h, fun x hx => .inl hx⟩
  | cons c l ih =>
    intro cur p h hp
    by_cases hc : c = 47
    · subst hc
      rw [cutP_slash] at hp
      rcases List.mem_cons.1 hp with rfl | hp
      · exact ⟨h, fun x hx => .inl hx⟩
      · obtain ⟨h1, h2⟩ := ih [] p (by simp) hp
        exact ⟨h1, fun x hx => (h2 x hx).elim (fun h3 => by simp at h3) (fun h3 => .inr (by simp [h3]))⟩
    · rw [cutP_other hc] at hp
      obtain ⟨h1, h2⟩ := ih _ p (by simp [h]; exact fun e => hc e.symm) hp
      refine ⟨h1, fun x hx => ?_⟩
      rcases h2 x hx with h3 | h3
      · rcases List.mem_append.1 h3 with h3 | h3
        · exact .inl h3
        · simp at h3; subst h3; exact .inr (by simp)
      · exact .inr (by simp [h3])
theorem pieces_mem {l p : Bs} (hp : p ∈ pieces l) : (47 : UInt8) ∉ p ∧ ∀ x ∈ p, x ∈ l := by
  obtain ⟨h1, h2⟩ := cutP_mem l [] p (by simp) hp
  exact ⟨h1, fun x hx => (h2 x hx).elim (fun h => by simp at h) (fun h => h)⟩

/-- A byte ahead of the first piece. -/
def consH (c : UInt8) : List Bs → List Bs
  | [] => [[c]]
  | p :: r => (c :: p) :: r
theorem cutP_cons (l : Bs) : ∀ c cur, cutP (c :: cur) l = consH c (cutP cur l) := by
  induction l with
  | nil => intro c cur; rfl
  | cons x l ih =>
    intro c cur
    by_cases h : x = 47
    · subst h; rw [cutP_slash, cutP_slash]; rfl
    · rw [cutP_other h, cutP_other h, List.cons_append, ih]
theorem pieces_other {c : UInt8} (h : c ≠ 47) (l : Bs) : pieces (c :: l) = consH c (pieces l) := by
  unfold pieces; rw [cutP_other h, List.nil_append, cutP_cons]
theorem pieces_slash (l : Bs) : pieces (47 :: l) = [] :: pieces l := by unfold pieces; rw [cutP_slash]
/-- What the library's Split makes. -/
theorem splitK_slash : ∀ l : Bs, Lib.splitK [47] 0 (Lib.count l [47]) l = pieces l
  | [] => by rw [Lib.count_miss (by simp [Lib.index])]; rfl
  | c :: l => by
    have ih := splitK_slash l
    by_cases h : c = 47
    · subst h
      have hix : Lib.index (47 :: l) [47] = 0 := by rw [Lib.index]; simp [List.isPrefixOf]
      rw [Lib.count_cons_eq, Nat.add_comm, Lib.splitK, hix, pieces_slash, ← ih]
      simp
    · have hp : ([47] : Bs).isPrefixOf (c :: l) = false := by simp [List.isPrefixOf, Ne.symm h]
      have hix : Lib.index (c :: l) [47] = if Lib.index l [47] == -1 then -1 else Lib.index l [47] + 1 := by rw [Lib.index, hp]; simp
      rw [Lib.count_cons_ne c 47 l h, pieces_other h, ← ih]
      by_cases hm : Lib.index l [47] = -1
      · rw [Lib.count_miss hm]; rfl
      · have hge := Lib.index_ge l [47]
        obtain ⟨j, hj⟩ : ∃ j : Nat, Lib.index l [47] = j := ⟨(Lib.index l [47]).toNat, by omega⟩
        rw [Lib.count_hit (by simp) hj, Nat.add_comm, Lib.splitK, Lib.splitK, hix, hj]
        have e1 : ((j : Int) == -1) = false := by rw [beq_eq_false_iff_ne]; omega
        have e2 : ((j : Int) + 1 == -1) = false := by rw [beq_eq_false_iff_ne]; omega
        have e3 : ((j : Int) + 1).toNat = j + 1 := by omega
        simp [e1, e2, e3, consH]

/-- Does a piece count? -/
def keptB (p : Bs) : Bool := !(p == []) && !(p == [46])
theorem keptB_nil : keptB [] = false := rfl
theorem keptB_dot : keptB [46] = false := rfl
theorem keptB_iff {p : Bs} : keptB p = true ↔ p ≠ [] ∧ p ≠ [46] := by unfold keptB; simp
def keepL (P : List Bs) : List Bs := P.filter keptB
theorem keepL_snoc_yes {P : List Bs} {p : Bs} (h : keptB p = true) : keepL (P ++ [p]) = keepL P ++ [p] := by unfold keepL; simp [h]
theorem keepL_snoc_no {P : List Bs} {p : Bs} (h : keptB p = false) : keepL (P ++ [p]) = keepL P := by unfold keepL; simp [h]
def partsOf (l : Bs) : List Bs := keepL (pieces l)
theorem partsOf_mem {l p : Bs} (h : p ∈ partsOf l) : p ≠ [] ∧ p ≠ [46] ∧ (47 : UInt8) ∉ p ∧ ∀ x ∈ p, x ∈ l := by
  unfold partsOf keepL at h
  rw [List.mem_filter] at h
  obtain ⟨h1, h2⟩ := keptB_iff.1 h.2
  exact ⟨h1, h2, pieces_mem h.1⟩
/-- May the parts be? -/
def okParts (Q : List Bs) : Bool := Q.all (fun p => decide (p.length ≤ 26)) && decide (Q.length ≤ 32)
theorem okParts_iff {Q : List Bs} : okParts Q = true ↔ (∀ p ∈ Q, p.length ≤ 26) ∧ Q.length ≤ 32 := by unfold okParts; simp
/-- The error of a path. -/
def parseE (l : Bs) : Int := if (0 : UInt8) ∈ l then 1 else if l = [] then 4 else if 255 < l.length then 9 else if okParts (partsOf l) = true then 0 else 9
def lastP (l : Bs) : Bs := (pieces l).getLast (cutP_ne l [])
def dirB (l : Bs) : Bool := (lastP l == []) || (lastP l == [46]) || (lastP l == [46, 46])
def absB (l : Bs) : Bool := l.head? == some 47

/-- The last piece. -/
theorem cutP_snoc_slash (l : Bs) : ∀ cur, cutP cur (l ++ [47]) = cutP cur l ++ [[]] := by
  induction l with
  | nil => intro cur; simp [cutP]
  | cons c l ih =>
    intro cur
    by_cases h : c = 47
    · subst h; rw [List.cons_append, cutP_slash, cutP_slash, ih]; rfl
    · rw [List.cons_append, cutP_other h, cutP_other h, ih]
theorem pieces_snoc_slash (l : Bs) : pieces (l ++ [47]) = pieces l ++ [[]] := cutP_snoc_slash l []
theorem cutP_snoc_other {x : UInt8} (hx : x ≠ 47) (l : Bs) : ∀ cur, ∃ D p, cutP cur (l ++ [x]) = D ++ [p ++ [x]] := by
  induction l with
  | nil => intro cur; exact ⟨[], cur, by rw [List.nil_append, cutP_other hx]; rfl⟩
  | cons c l ih =>
    intro cur
    by_cases h : c = 47
    · subst h
      obtain ⟨D, p, e⟩ := ih []
      exact ⟨cur :: D, p, by rw [List.cons_append, cutP_slash, e]; rfl⟩
    · obtain ⟨D, p, e⟩ := ih (cur ++ [c])
      exact ⟨D, p, by rw [List.cons_append, cutP_other h, e]⟩
theorem lastP_eq {l : Bs} {D : List Bs} {p : Bs} (h : pieces l = D ++ [p]) : lastP l = p := by
  have key : ∀ (P : List Bs) (hP : P ≠ []), P = D ++ [p] → P.getLast hP = p := by
    intro P hP e
    subst e
    simp
  exact key _ _ h
/-- The last of those that are not empty. -/
def lastNE (P : List Bs) : Bs := (P.filter fun p => !(p == [])).getLast?.getD []
theorem lastNE_nil : lastNE [] = [] := rfl
theorem lastNE_snoc_no {P : List Bs} : lastNE (P ++ [[]]) = lastNE P := by unfold lastNE; simp
theorem lastNE_snoc_yes {P : List Bs} {p : Bs} (h : p ≠ []) : lastNE (P ++ [p]) = p := by unfold lastNE; simp [List.filter_append, h]
/-- Whether it is a directory's, by the last byte and the last piece that is not empty. -/
theorem dirB_ref {l : Bs} {x : UInt8} {m : Bs} (h : l = m ++ [x]) : dirB l = ((x == 47) || (lastNE (pieces l) == [46]) || (lastNE (pieces l) == [46, 46])) := by
  by_cases hx : x = 47
  · subst hx
    have e : lastP l = [] := lastP_eq (D := pieces m) (by rw [h, pieces_snoc_slash])
    unfold dirB
    rw [e]
    simp
  · obtain ⟨D, p, e⟩ := cutP_snoc_other hx m []
    have e2 : pieces l = D ++ [p ++ [x]] := by rw [h]; exact e
    have e3 : lastP l = p ++ [x] := lastP_eq e2
    have e4 : lastNE (pieces l) = p ++ [x] := by rw [e2]; exact lastNE_snoc_yes (by simp)
    have e5 : (x == 47) = false := by simp [hx]
    have e6 : ((p ++ [x]) == []) = false := by simp
    unfold dirB
    rw [e3, e4, e5, e6]
theorem pieces_split (l : Bs) : ∃ D, pieces l = D ++ [lastP l] := ⟨(pieces l).dropLast, by unfold lastP; exact (List.dropLast_concat_getLast (cutP_ne l [])).symm⟩
/-- No part at all: the last piece is none. -/
theorem dir_of_none {l : Bs} (h : partsOf l = []) : dirB l = true := by
  obtain ⟨D, e⟩ := pieces_split l
  unfold partsOf at h
  rw [e] at h
  cases hk : keptB (lastP l) with
  | true => rw [keepL_snoc_yes hk] at h; simp at h
  | false =>
    unfold keptB at hk
    unfold dirB
    cases h1 : lastP l == [] with
    | true => rfl
    | false =>
      cases h2 : lastP l == [46] with
      | true => simp
      | false => rw [h1, h2] at hk; simp at hk
/-- Not a directory's: the last piece is the last part. -/
theorem part_of_plain {l : Bs} (h : dirB l = false) : ∃ Q, partsOf l = Q ++ [lastP l] ∧ lastP l ≠ [46, 46] := by
  obtain ⟨D, e⟩ := pieces_split l
  unfold dirB at h
  simp only [Bool.or_eq_false_iff] at h
  obtain ⟨⟨h1, h2⟩, h3⟩ := h
  have hk : keptB (lastP l) = true := by unfold keptB; rw [h1, h2]; rfl
  refine ⟨keepL D, ?_, by simpa using h3⟩
  unfold partsOf
  rw [e]
  exact keepL_snoc_yes hk
theorem parseE_cases (l : Bs) : parseE l = 0 ∨ parseE l = 1 ∨ parseE l = 4 ∨ parseE l = 9 := by unfold parseE; (repeat' split) <;> simp
theorem parseE_ok {l : Bs} (h : parseE l = 0) : (0 : UInt8) ∉ l ∧ l ≠ [] ∧ l.length ≤ 255 ∧ okParts (partsOf l) = true := by
  unfold parseE at h
  split at h
  · cases h
  · split at h
    · cases h
    · split at h
      · cases h
      · split at h
        · refine ⟨‹_›, ‹_›, by omega, ‹_›⟩
        · cases h
theorem parseE_of {l : Bs} (h1 : (0 : UInt8) ∉ l) (h2 : l ≠ []) (h3 : l.length ≤ 255) (h4 : okParts (partsOf l) = true) : parseE l = 0 := by
  unfold parseE; rw [if_neg h1, if_neg h2, if_neg (by omega), if_pos h4]
theorem parseE_nul {l : Bs} (h : (0 : UInt8) ∈ l) : parseE l = 1 := if_pos h
theorem parseE_none {l : Bs} (h1 : (0 : UInt8) ∉ l) (h : l = []) : parseE l = 4 := by unfold parseE; rw [if_neg h1, if_pos h]
theorem parseE_long {l : Bs} (h1 : (0 : UInt8) ∉ l) (h2 : l ≠ []) (h : 255 < l.length) : parseE l = 9 := by unfold parseE; rw [if_neg h1, if_neg h2, if_pos h]
theorem parseE_bad {l : Bs} (h1 : (0 : UInt8) ∉ l) (h2 : l ≠ []) (h3 : l.length ≤ 255) (h4 : okParts (partsOf l) = false) : parseE l = 9 := by
  unfold parseE; rw [if_neg h1, if_neg h2, if_neg (by omega), if_neg (by rw [h4]; simp)]

/-! ## Texts -/
/-- Parts, joined by slashes. -/
def joinS : List Bs → Bs
  | [] => []
  | [p] => p
  | p :: q :: r => p ++ 47 :: joinS (q :: r)
theorem joinS_snoc : ∀ (P : List Bs) (p : Bs), P ≠ [] → joinS (P ++ [p]) = joinS P ++ 47 :: p
  | [], _, h => absurd rfl h
  | [q], p, _ => rfl
  | q :: q' :: r, p, _ => by
    have ih := joinS_snoc (q' :: r) p (by simp)
    rw [List.cons_append, List.cons_append, joinS, ← List.cons_append, ih, joinS]
    simp
theorem joinS_pieces : ∀ (P : List Bs), P ≠ [] → (∀ p ∈ P, (47 : UInt8) ∉ p) → pieces (joinS P) = P
  | [], h, _ => absurd rfl h
  | [p], _, hm => pieces_plain (hm p (by simp))
  | p :: q :: r, _, hm => by
    rw [joinS, pieces_cons (hm p (by simp)), joinS_pieces (q :: r) (by simp) fun x hx => hm x (by simp only [List.mem_cons] at hx ⊢; exact .inr hx)]
/-- What pieces weigh. -/
def weighL (P : List Bs) : Nat := (P.map fun p => p.length + 1).sum
theorem weighL_nil : weighL [] = 0 := rfl
theorem weighL_cons (p : Bs) (P : List Bs) : weighL (p :: P) = p.length + 1 + weighL P := by unfold weighL; simp
theorem weighL_append (P Q : List Bs) : weighL (P ++ Q) = weighL P + weighL Q := by unfold weighL; simp
theorem weighL_sub {P Q : List Bs} (h : P.Sublist Q) : weighL P ≤ weighL Q := by
  induction h with
  | slnil => exact Nat.le_refl _
  | cons a _ ih => rw [weighL_cons]; omega
  | cons_cons a _ ih => rw [weighL_cons, weighL_cons]; omega
theorem joinS_length : ∀ (P : List Bs), P ≠ [] → (joinS P).length + 1 = weighL P
  | [], h => absurd rfl h
  | [p], _ => by simp [joinS, weighL]
  | p :: q :: r, _ => by
    have ih := joinS_length (q :: r) (by simp)
    rw [weighL_cons, joinS, List.length_append, List.length_cons]; omega
theorem cutP_weigh (l : Bs) : ∀ cur, weighL (cutP cur l) = cur.length + l.length + 1 := by
  induction l with
  | nil => intro cur; simp [cutP, weighL]
  | cons c l ih =>
    intro cur
    by_cases h : c = 47
    · subst h; rw [cutP_slash, weighL_cons, ih]; simp; omega
    · rw [cutP_other h, ih]; simp; omega
theorem pieces_weigh (l : Bs) : weighL (pieces l) = l.length + 1 := by unfold pieces; rw [cutP_weigh]; simp
theorem keepL_weigh (P : List Bs) : weighL (keepL P) ≤ weighL P := weighL_sub List.filter_sublist

def endsUp (Q : List Bs) : Bool := Q.getLast? == some [46, 46]
def absT (ab : Bool) (Q : List Bs) : Bs := if ab then 47 :: joinS Q else joinS Q
/-- The text of a path. -/
def textL (ab di : Bool) (Q : List Bs) : Bs :=
  if (!di || endsUp Q) then absT ab Q else if Q ≠ [] then absT ab Q ++ [47] else if ab then absT ab Q else [46]
/-- The text, as the document makes it. -/
def rtextL (ab di : Bool) (Q : List Bs) : Bs :=
  if absT ab Q = [] then [46] else if (Q ≠ [] ∧ di = true ∧ endsUp Q = false) then absT ab Q ++ [47] else absT ab Q
theorem absT_nil {ab : Bool} {Q : List Bs} (hQ : ∀ p ∈ Q, p ≠ []) : absT ab Q = [] ↔ ab = false ∧ Q = [] := by
  unfold absT
  cases ab with
  | true => simp
  | false =>
    simp only [Bool.false_eq_true, if_false, true_and]
    constructor
    · intro h
      match Q, hQ, h with
      | [], _, _ => rfl
      | [p], hQ, h => exact absurd h (hQ p (by simp))
      | p :: q :: r, hQ, h => simp [joinS] at h
    · rintro rfl; rfl
theorem text_ref {ab di : Bool} {Q : List Bs} (hQ : ∀ p ∈ Q, p ≠ []) (hd : Q = [] → di = true) : textL ab di Q = rtextL ab di Q := by
  unfold textL rtextL
  by_cases h0 : Q = []
  · subst h0
    have e : endsUp [] = false := rfl
    rw [hd rfl, e]
    cases ab <;> simp [absT, joinS]
  · have h1 : ¬ absT ab Q = [] := fun h => h0 ((absT_nil hQ).1 h).2
    rw [if_neg h1]
    cases di <;> cases h2 : endsUp Q <;> simp [h0]
/-- The pieces of a text. -/
theorem absT_pieces {ab : Bool} {Q : List Bs} (hQ : ∀ p ∈ Q, (47 : UInt8) ∉ p) (h0 : Q ≠ []) : pieces (absT ab Q) = if ab then [] :: Q else Q := by
  unfold absT
  cases ab with
  | true => simp only [if_true]; rw [pieces_slash, joinS_pieces Q h0 hQ]
  | false => simp only [Bool.false_eq_true, if_false]; exact joinS_pieces Q h0 hQ
theorem keepL_all {Q : List Bs} (h : ∀ p ∈ Q, keptB p = true) : keepL Q = Q := List.filter_eq_self.2 h
theorem absB_absT {ab : Bool} {Q : List Bs} (hQ : ∀ p ∈ Q, p ≠ [] ∧ (47 : UInt8) ∉ p) (h0 : Q ≠ []) (t : Bs) : absB (absT ab Q ++ t) = ab := by
  unfold absT absB
  cases ab with
  | true => simp
  | false =>
    simp only [Bool.false_eq_true, if_false]
    match Q, hQ, h0 with
    | [p], hQ, _ =>
      obtain ⟨h1, h2⟩ := hQ p (by simp)
      match p, h1, h2 with
      | c :: p, _, h2 =>
        have : c ≠ 47 := fun e => h2 (by rw [e]; simp)
        simp [joinS, this]
    | p :: q :: r, hQ, _ =>
      obtain ⟨h1, h2⟩ := hQ p (by simp)
      match p, h1, h2 with
      | c :: p, _, h2 =>
        have : c ≠ 47 := fun e => h2 (by rw [e]; simp)
        simp [joinS, this]
/-- A path of these may be parsed. -/
structure PathOk (ab di : Bool) (Q : List Bs) : Prop where
  kept : ∀ p ∈ Q, p ≠ [] ∧ p ≠ [46] ∧ (47 : UInt8) ∉ p ∧ (0 : UInt8) ∉ p
  ok : okParts Q = true
  dir : di = false → Q ≠ [] ∧ endsUp Q = false
theorem PathOk.ofParse {l : Bs} (h : parseE l = 0) : PathOk (absB l) (dirB l) (partsOf l) := by
  obtain ⟨h1, h2, h3, h4⟩ := parseE_ok h
  refine ⟨fun p hp => ?_, h4, fun hd => ?_⟩
  · obtain ⟨a, b, c, d⟩ := partsOf_mem hp
    exact ⟨a, b, c, fun hz => h1 (d 0 hz)⟩
  · obtain ⟨Q, e1, e2⟩ := part_of_plain hd
    refine ⟨by rw [e1]; simp, ?_⟩
    unfold endsUp
    rw [e1]
    simp [e2]
theorem PathOk.keptB {ab di : Bool} {Q : List Bs} (h : PathOk ab di Q) : ∀ p ∈ Q, keptB p = true := fun p hp => keptB_iff.2 ⟨(h.kept p hp).1, (h.kept p hp).2.1⟩
theorem last_split {Q : List Bs} (h : Q ≠ []) : ∃ D p, Q = D ++ [p] := ⟨Q.dropLast, Q.getLast h, (List.dropLast_concat_getLast h).symm⟩
/-- The text of a path leads back to the path. -/
theorem text_back {ab di : Bool} {Q : List Bs} (h : PathOk ab di Q) : partsOf (textL ab di Q) = Q ∧ dirB (textL ab di Q) = di ∧ absB (textL ab di Q) = ab := by
  by_cases h0 : Q = []
  · subst h0
    have hd : di = true := by
      cases hd : di with
      | true => rfl
      | false => exact absurd rfl (h.dir hd).1
    subst hd
    cases ab <;> decide
  · have hs : ∀ p ∈ Q, (47 : UInt8) ∉ p := fun p hp => (h.kept p hp).2.2.1
    have hp := absT_pieces (ab := ab) hs h0
    have hk := keepL_all h.keptB
    have hab := absB_absT (ab := ab) (fun p hp => ⟨(h.kept p hp).1, (h.kept p hp).2.2.1⟩) h0
    obtain ⟨D, p, e⟩ := last_split h0
    have hkp : keptB p = true := h.keptB p (by rw [e]; simp)
    have hkeep : keepL (if ab then [] :: Q else Q) = Q := by
      cases ab with
      | true => simp only [if_true]; unfold keepL at hk ⊢; rw [List.filter_cons]; simp [keptB_nil, hk]
      | false => exact hk
    have hlast : ∃ D', (if ab then [] :: Q else Q) = D' ++ [p] := by
      cases ab with
      | true => exact ⟨[] :: D, by simp [e]⟩
      | false => exact ⟨D, by simp [e]⟩
    obtain ⟨D', hD'⟩ := hlast
    cases hd : di with
    | false =>
      have hu := (h.dir hd).2
      have et : textL ab false Q = absT ab Q := by unfold textL; simp
      rw [et]
      refine ⟨by unfold partsOf; rw [hp, hkeep], ?_, by have := hab []; rwa [List.append_nil] at this⟩
      have el : lastP (absT ab Q) = p := lastP_eq (D := D') (by rw [hp, hD'])
      obtain ⟨k1, k2⟩ := keptB_iff.1 hkp
      have k3 : p ≠ [46, 46] := fun e3 => by unfold endsUp at hu; rw [e, e3] at hu; simp at hu
      unfold dirB
      rw [el]
      simp [k1, k2, k3]
    | true =>
      cases hu : endsUp Q with
      | true =>
        have et : textL ab true Q = absT ab Q := by unfold textL; simp [hu]
        rw [et]
        refine ⟨by unfold partsOf; rw [hp, hkeep], ?_, by have := hab []; rwa [List.append_nil] at this⟩
        have el : lastP (absT ab Q) = p := lastP_eq (D := D') (by rw [hp, hD'])
        have k3 : p = [46, 46] := by unfold endsUp at hu; rw [e] at hu; simpa using hu
        unfold dirB
        rw [el, k3]
        rfl
      | false =>
        have et : textL ab true Q = absT ab Q ++ [47] := by unfold textL; simp [hu, h0]
        rw [et]
        refine ⟨?_, ?_, hab [47]⟩
        · unfold partsOf
          rw [pieces_snoc_slash, hp, keepL_snoc_no keptB_nil, hkeep]
        · have el : lastP (absT ab Q ++ [47]) = [] := lastP_eq (D := pieces (absT ab Q)) (pieces_snoc_slash _)
          unfold dirB
          rw [el]
          rfl
theorem absT_length {ab : Bool} {Q : List Bs} (h0 : Q ≠ []) : (absT ab Q).length + 1 = weighL Q + (if ab then 1 else 0) := by
  have := joinS_length Q h0
  unfold absT
  cases ab <;> simp <;> omega
theorem textL_mem {ab di : Bool} {Q : List Bs} {x : UInt8} (h : x ∈ textL ab di Q) : x = 47 ∨ x = 46 ∨ ∃ p ∈ Q, x ∈ p := by
  have hj : ∀ (P : List Bs), x ∈ joinS P → x = 47 ∨ ∃ p ∈ P, x ∈ p := by
    intro P
    induction P with
    | nil => intro h; simp [joinS] at h
    | cons p P ih =>
      intro h
      match P, ih, h with
      | [], _, h => exact .inr ⟨p, by simp, h⟩
      | q :: r, ih, h =>
        rw [joinS] at h
        rcases List.mem_append.1 h with h | h
        · exact .inr ⟨p, by simp, h⟩
        · rcases List.mem_cons.1 h with h | h
          · exact .inl h
          · rcases ih h with h | ⟨y, hy, hx⟩
            · exact .inl h
            · exact .inr ⟨y, by simp only [List.mem_cons] at hy ⊢; exact .inr hy, hx⟩
  have ha : x ∈ absT ab Q → x = 47 ∨ ∃ p ∈ Q, x ∈ p := by
    unfold absT
    cases ab with
    | true =>
      simp only [if_true]
      intro h
      rcases List.mem_cons.1 h with h | h
      · exact .inl h
      · exact hj Q h
    | false => simp only [Bool.false_eq_true, if_false]; exact hj Q
  unfold textL at h
  split at h
  · rcases ha h with h | h
    · exact .inl h
    · exact .inr (.inr h)
  · split at h
    · rcases List.mem_append.1 h with h | h
      · rcases ha h with h | h
        · exact .inl h
        · exact .inr (.inr h)
      · simp at h; exact .inl h
    · split at h
      · rcases ha h with h | h
        · exact .inl h
        · exact .inr (.inr h)
      · simp at h; exact .inr (.inl h)
/-- The text of what was parsed is no longer than what was parsed. -/
theorem text_le {l : Bs} (h : parseE l = 0) : (textL (absB l) (dirB l) (partsOf l)).length ≤ l.length := by
  obtain ⟨h1, h2, h3, h4⟩ := parseE_ok h
  have hl1 : 1 ≤ l.length := by cases l with | nil => exact absurd rfl h2 | cons => simp
  by_cases h0 : partsOf l = []
  · rw [h0]
    have : (textL (absB l) (dirB l) []).length ≤ 1 := by rw [dir_of_none h0]; cases absB l <;> decide
    omega
  · have hW := pieces_weigh l
    obtain ⟨D, eD⟩ := pieces_split l
    have hlen := absT_length (ab := absB l) h0
    -- what is dropped ahead, and behind
    have key : weighL (partsOf l) + (if absB l then 1 else 0) + (if keptB (lastP l) then 0 else 1) ≤ l.length + 1 := by
      unfold partsOf at h0 ⊢
      by_cases ha : absB l = true
      · obtain ⟨m, hm⟩ : ∃ m, l = 47 :: m := by
          unfold absB at ha
          cases l with
          | nil => exact absurd rfl h2
          | cons c m => simp at ha; exact ⟨m, by rw [ha]⟩
        have e1 : pieces l = [] :: pieces m := by rw [hm, pieces_slash]
        have e2 : keepL (pieces l) = keepL (pieces m) := by rw [e1]; unfold keepL; rw [List.filter_cons]; simp [keptB_nil]
        obtain ⟨D2, e3⟩ := pieces_split m
        have e4 : lastP l = lastP m := lastP_eq (D := [] :: D2) (by rw [e1, e3]; rfl)
        have e5 : weighL (pieces m) + 1 = l.length + 1 := by rw [← hW, e1, weighL_cons]; simp; omega
        rw [e2, ha, e4]
        have e6 : weighL (keepL (pieces m)) + (if keptB (lastP m) then 0 else 1) ≤ weighL (pieces m) := by
          cases hk : keptB (lastP m) with
          | true => simp; exact keepL_weigh _
          | false =>
            rw [e3, keepL_snoc_no hk, weighL_append, weighL_cons]
            have := keepL_weigh D2
            simp; omega
        simp only [if_true]; omega
      · have ha' : absB l = false := by simpa using ha
        rw [ha']
        cases hk : keptB (lastP l) with
        | true => have := keepL_weigh (pieces l); simp; omega
        | false =>
          rw [eD, keepL_snoc_no hk]
          rw [eD, weighL_append, weighL_cons] at hW
          have := keepL_weigh D
          simp; omega
    generalize hQ : partsOf l = Q at *
    cases hd : dirB l with
    | false =>
      have et : textL (absB l) false Q = absT (absB l) Q := by unfold textL; simp
      rw [et]; omega
    | true =>
      cases hu : endsUp Q with
      | true =>
        have et : textL (absB l) true Q = absT (absB l) Q := by unfold textL; simp [hu]
        rw [et]; omega
      | false =>
        have et : textL (absB l) true Q = absT (absB l) Q ++ [47] := by unfold textL; simp [hu, h0]
        have hk : keptB (lastP l) = false := by
          cases hk : keptB (lastP l) with
          | false => rfl
          | true =>
            have hq : partsOf l = keepL D ++ [lastP l] := by unfold partsOf; rw [eD, keepL_snoc_yes hk]
            have : lastP l ≠ [46, 46] := fun e3 => by rw [← hQ, hq, e3] at hu; unfold endsUp at hu; simp at hu
            obtain ⟨k1, k2⟩ := keptB_iff.1 hk
            unfold dirB at hd
            simp [k1, k2, this] at hd
        rw [et, List.length_append, List.length_singleton]
        rw [hk] at key
        simp only [Bool.false_eq_true, if_false] at key
        omega
theorem parse_text {l : Bs} (h : parseE l = 0) : parseE (textL (absB l) (dirB l) (partsOf l)) = 0 := by
  obtain ⟨h1, h2, h3, h4⟩ := parseE_ok h
  have hp := PathOk.ofParse h
  have hb := text_back hp
  refine parseE_of ?_ ?_ (by have := text_le h; omega) (by rw [hb.1]; exact h4)
  · intro hz
    rcases textL_mem hz with e | e | ⟨p, hp', hx⟩
    · cases e
    · cases e
    · exact (hp.kept p hp').2.2.2 hx
  · intro e
    have h5 := hb.2.2
    have h6 := hb.1
    rw [e] at h5 h6
    have h7 : partsOf l = [] := by rw [← h6]; rfl
    rw [h7, dir_of_none h7] at e
    revert e
    cases absB l <;> decide

/-! ## Without ".." -/
def cleanS (out : List Bs) (p : Bs) : List Bs := if p ≠ [46, 46] then out ++ [p] else out.dropLast
def cleanL (Q : List Bs) : List Bs := Q.foldl cleanS []
theorem cleanL_snoc (Q : List Bs) (p : Bs) : cleanL (Q ++ [p]) = cleanS (cleanL Q) p := by unfold cleanL; rw [List.foldl_append]; rfl
theorem foldl_clean_mem (Q : List Bs) : ∀ out p, p ∈ Q.foldl cleanS out → p ∈ out ∨ (p ∈ Q ∧ p ≠ [46, 46]) := by
  induction Q with
  | nil => intro out p h; exact .inl h
  | cons q Q ih =>
    intro out p h
    rw [List.foldl_cons] at h
    rcases ih _ p h with h | ⟨h, h'⟩
    · unfold cleanS at h
      split at h
      · rename_i hq
        rcases List.mem_append.1 h with h | h
        · exact .inl h
        · simp at h; subst h; exact .inr ⟨by simp, hq⟩
      · exact .inl ((List.dropLast_sublist out).subset h)
    · exact .inr ⟨by simp [h], h'⟩
theorem cleanL_mem {Q : List Bs} {p : Bs} (h : p ∈ cleanL Q) : p ∈ Q ∧ p ≠ [46, 46] := by
  rcases foldl_clean_mem Q [] p h with h | h
  · simp at h
  · exact h
theorem foldl_clean_weigh (Q : List Bs) : ∀ out, weighL (Q.foldl cleanS out) ≤ weighL out + weighL Q ∧ (Q.foldl cleanS out).length ≤ out.length + Q.length := by
  induction Q with
  | nil => intro out; simp [weighL_nil]
  | cons q Q ih =>
    intro out
    obtain ⟨h1, h2⟩ := ih (cleanS out q)
    rw [List.foldl_cons, weighL_cons, List.length_cons]
    have h3 : weighL (cleanS out q) ≤ weighL out + (q.length + 1) ∧ (cleanS out q).length ≤ out.length + 1 := by
      unfold cleanS
      split
      · rw [weighL_append, weighL_cons, weighL_nil]; simp
      · have := weighL_sub (List.dropLast_sublist out); simp; omega
    omega
theorem cleanL_le (Q : List Bs) : weighL (cleanL Q) ≤ weighL Q ∧ (cleanL Q).length ≤ Q.length := by
  have := foldl_clean_weigh Q []
  simp only [weighL_nil, List.length_nil, Nat.zero_add] at this
  exact this
/-- What is clean stays as it is. -/
theorem cleanL_same {Q : List Bs} (h : ∀ p ∈ Q, p ≠ [46, 46]) : cleanL Q = Q := by
  have : ∀ (Q out : List Bs), (∀ p ∈ Q, p ≠ [46, 46]) → Q.foldl cleanS out = out ++ Q := by
    intro Q
    induction Q with
    | nil => intro out _; simp
    | cons q Q ih =>
      intro out h
      rw [List.foldl_cons, ih _ fun p hp => h p (by simp [hp])]
      unfold cleanS
      rw [if_pos (h q (by simp))]
      simp
  have e := this Q [] h
  rw [List.nil_append] at e
  exact e
end Go.Proofs.YtpnafikmbbnecaaDoor
