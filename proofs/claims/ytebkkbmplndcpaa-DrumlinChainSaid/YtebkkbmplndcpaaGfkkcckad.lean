/- Sealing, by its walks. Two sectors, compared as arrays. Opening a sealed sector, by its walks. -/
import Derived.Test.YtebkkbmplndcpaaGdmcfliee
import Derived.Deep.DeepCutAuto
import Derived.Deep.WholeRow
import Derived.Laws.StructEq
namespace Go.Proofs.Ytebkkbmplndcpaa
open Go.RowKit
set_option linter.unusedVariables false
set_option maxRecDepth 100000

/-! ### The writer's steps, in one form -/
def wNum (st : List Nat × Bool) (q : Int) (n : Nat) : List Nat × Bool :=
  if st.2 then (st.1, true) else if roomB 128 st.1.length q && hasB q n then (st.1 ++ low n q.toNat, false) else (st.1, true)
def wBytes (st : List Nat × Bool) (q : Int) (b : List Nat) : List Nat × Bool :=
  if st.2 then (st.1, true) else if (b.length : Int) ≤ q ∧ q ≤ 128 - (st.1.length : Int) then (st.1 ++ b ++ List.replicate (q.toNat - b.length) 0, false) else (st.1, true)

/-! ### What is sealed -/
def headL (kind : Nat) (body : List Nat) : List Nat := [215, 76, kind, body.length] ++ body ++ List.replicate (120 - body.length) 0
def sealL (kind : Nat) (body : List Nat) : List Nat := headL kind body ++ low (crc (headL kind body)) 4
theorem headL_length {kind : Nat} {body : List Nat} (h : body.length ≤ 120) : (headL kind body).length = 124 := by simp [headL]; omega
theorem headL_bytes {kind : Nat} {body : List Nat} (hk : kind < 256) (hb : Bytes body) (h : body.length ≤ 120) : Bytes (headL kind body) := by
  refine (Bytes.append ?_ hb).append ?_
  · intro x hx
    simp at hx
    omega
  · intro x hx; have := List.eq_of_mem_replicate hx; omega
theorem sealL_length {kind : Nat} {body : List Nat} (h : body.length ≤ 120) : (sealL kind body).length = 128 := by simp [sealL, headL_length h, low_length]
theorem sealL_bytes {kind : Nat} {body : List Nat} (hk : kind < 256) (hb : Bytes body) (h : body.length ≤ 120) : Bytes (sealL kind body) :=
  (headL_bytes hk hb h).append (low_bytes _ _)

/-- What the writer has behind the four steps of Make. -/
def makeSt (kind : Nat) (body : List Nat) : List Nat × Bool := wBytes (wNum (wNum (wNum ([], false) 2 19671) 1 kind) 1 body.length) 120 body
theorem makeSt_ok {kind : Nat} {body : List Nat} (hk : kind < 256) (h : body.length ≤ 120) : makeSt kind body = (headL kind body, false) := by
  unfold makeSt
  have e1 : wNum ([], false) 2 19671 = ([215, 76], false) := by decide
  have e2 : wNum ([215, 76], false) 1 kind = ([215, 76, kind], false) := by
    unfold wNum
    have h1 : roomB 128 ([215, 76] : List Nat).length 1 = true := by decide
    have h2 : hasB 1 kind = true := by unfold hasB; apply decide_eq_true; exact ⟨by decide, by decide, by simpa using hk⟩
    simp only [h1, h2]
    simp [low, Nat.mod_eq_of_lt hk]
  have e3 : wNum ([215, 76, kind], false) 1 body.length = ([215, 76, kind, body.length], false) := by
    unfold wNum
    have h1 : roomB 128 ([215, 76, kind] : List Nat).length 1 = true := by
      show roomB 128 ((3 : Nat) : Int) 1 = true
      decide
    have h2 : hasB 1 body.length = true := by unfold hasB; apply decide_eq_true; exact ⟨by decide, by decide, by simp; omega⟩
    simp only [h1, h2]
    simp [low, Nat.mod_eq_of_lt (show body.length < 256 by omega)]
  rw [e1, e2, e3]
  unfold wBytes headL
  rw [if_neg (by simp), if_pos (by simp; omega)]
  simp
theorem wNum_failed (st : List Nat × Bool) (q : Int) (n : Nat) (h : st.2 = true) : (wNum st q n).2 = true := by unfold wNum; rw [h]; simp
theorem wBytes_failed (st : List Nat × Bool) (q : Int) (b : List Nat) (h : st.2 = true) : (wBytes st q b).2 = true := by unfold wBytes; rw [h]; simp
theorem makeSt_no {kind : Nat} {body : List Nat} (hk : kind < 256) (h : 120 < body.length) : (makeSt kind body).2 = true := by
  unfold makeSt
  unfold wBytes
  split
  · rfl
  · rw [if_neg (by omega)]

/-- Behind the first block that a call makes: what was there is as it was, and that block holds what it held. -/
theorem first_block {w wk : World} {cs : Array Value} {t : TypeId} (h : Below (w.heap.size + 1) (w.alloc (.cells cs t)) wk) :
    Below w.heap.size w wk ∧ wk.heap[w.heap.size]? = some (.cells cs t (0, 0)) :=
  ⟨((Below.refl _ _).alloc (Nat.le_refl _) _).trans (h.mono (by omega)), by rw [h.block _ (by omega)]; exact heap_alloc_new w _⟩

end Go.Proofs.Ytebkkbmplndcpaa
namespace Go.Proofs.Ytebkkbmplndcpaa
open Go.RowKit
set_option linter.unusedVariables false
set_option maxRecDepth 100000

theorem run_size_u8 (w : World) : (sizeOf 5).run Try.prog w = .ok 1 w := by kernel_rfl
theorem run_agg_u8 (w : World) : (isAgg 5).run Try.prog w = .ok false w := by kernel_rfl
theorem run_part_byte (l : List Nat) (i : Nat) (hi : i < l.length) (w : World) : (part 5 (cells l) i).run Try.prog w = .ok (byteV (l.getD i 0)) w := by
  unfold part
  simp only [Sem.run_bind, run_agg_u8, Result.andThen_ok]
  have h : (cells l)[i]? = some (byteV (l.getD i 0)) := by simp [cells, List.getD, List.getElem?_eq_getElem hi]
  rw [if_neg (by decide), h]
  rfl
theorem run_equalIn_byte (d x y : Nat) (w : World) : (Op.equalIn (d + 1) 5 (byteV x) (byteV y)).run Try.prog w = .ok ((x : Int) == y) w := by
  simp [Op.equalIn, byteV, run_underlying Try.underlying5]

theorem run_cells_loop (d : Nat) (a b : List Nat) (ha : a.length = 128) (hb : b.length = 128) (w : World) (F : Option Bool × Unit → World → Result Bool)
    (h1 : F (none, ()) w = .ok true w) (h2 : F (some false, ()) w = .ok false w) : ∀ m k : Nat, k + m = 128 → a.take k = b.take k →
      ((forIn (m := Sem) (List.range' k m 1) ((none : Option Bool), ()) fun i __s => do
            let x ← part 5 (cells a) (i * 1)
            let y ← part 5 (cells b) (i * 1)
            let r ← Op.equalIn (d + 1) 5 x y
            if (!r) = true then pure (ForInStep.done (some false, ())) else pure (ForInStep.yield (none, ()))).run Try.prog w).andThen F = .ok (decide (a = b)) w := by
  intro m
  induction m with
  | zero =>
    intro k hk he
    rw [List.take_of_length_le (by omega), List.take_of_length_le (by omega)] at he
    subst he
    simpa using h1
  | succ m ih =>
    intro k hk he
    rw [List.range'_succ, List.forIn_cons]
    simp only [Nat.mul_one, Sem.run_bind, run_part_byte a k (by omega), run_part_byte b k (by omega), Result.andThen_ok, run_equalIn_byte]
    by_cases hx : a.getD k 0 = b.getD k 0
    · rw [hx]
      simp only [beq_self_eq_true, Bool.not_true, Bool.false_eq_true, if_false, Sem.run_pure, Result.andThen_ok]
      have := ih (k + 1) (by omega) (by rw [take_snoc_getD a k (by omega), take_snoc_getD b k (by omega), he, hx])
      simpa using this
    · have hne : (((a.getD k 0 : Nat) : Int) == ((b.getD k 0 : Nat) : Int)) = false := by simp only [beq_eq_false_iff_ne, ne_eq]; omega
      have hab : ¬ a = b := by rintro rfl; exact hx rfl
      simp only [hne, Bool.not_false, if_true, Sem.run_pure, Result.andThen_ok, hab, decide_false, h2]

end Go.Proofs.Ytebkkbmplndcpaa
namespace Go.Proofs.Ytebkkbmplndcpaa
open Go.RowKit
set_option linter.unusedVariables false
set_option maxRecDepth 100000

theorem le_one (s : List Nat) (n : Nat) (h : n < s.length) : le ((s.drop n).take 1) = s.getD n 0 := by
  rw [List.drop_eq_getElem_cons h, List.take_succ_cons, List.take_zero]
  simp [le, List.getD, List.getElem?_eq_getElem h]

/-- What Bytes hands back of a reader that has not failed. -/
def bodyOf (s : List Nat) (n q : Nat) : List Nat := if n + q ≤ 128 then (s.drop n).take q else []
theorem bodyOf_length (s : List Nat) (n q : Nat) : (bodyOf s n q).length ≤ 128 := by
  unfold bodyOf
  split
  · simp; omega
  · simp

def kindL (s : List Nat) : Nat := s.getD 2 0
def bodyL (s : List Nat) : List Nat := bodyOf s 4 (s.getD 3 0)
/-- Is it just one that Make makes? -/
def openB (s : List Nat) : Bool := decide (kindL s ≠ 0 ∧ (bodyL s).length ≤ 120 ∧ sealL (kindL s) (bodyL s) = s)

theorem openB_no_make {s : List Nat} (h : kindL s = 0 ∨ 120 < (bodyL s).length) : openB s = false := by
  unfold openB
  apply decide_eq_false
  rintro ⟨h1, h2, _⟩
  rcases h with h | h
  · exact h1 h
  · omega
theorem openB_make {s : List Nat} (h : ¬ (kindL s = 0 ∨ 120 < (bodyL s).length)) : openB s = decide (sealL (kindL s) (bodyL s) = s) := by
  unfold openB
  rw [decide_eq_decide]
  exact ⟨fun h1 => h1.2.2, fun h1 => ⟨by omega, by omega, h1⟩⟩

def OpenPost2 (s : List Nat) (w : World) (e : Ending) (w' : World) : Prop :=
  Below w.heap.size w w' ∧ ((openB s = true ∧ ∃ a cap, e = .returned (.tuple #[.int .u8 (kindL s : Nat), .slice a (bodyL s).length cap, .int .i64 0]) ∧ Reads w' a (bodyL s).length (bodyL s) ∧ (bodyL s).length ≤ cap ∧ cap ≤ maxLen) ∨
    (openB s = false ∧ e = .returned (.tuple #[.int .u8 0, .slice none 0 0, .int .i64 21])))
def OpenPost (s : List Nat) (w : World) (e : Ending) (w' : World) : Prop :=
  Below w.heap.size w w' ∧ ((openB s = true ∧ ∃ a cap, e = .returned (.tuple #[.int .u8 (kindL s : Nat), .slice a (bodyL s).length cap, .int .i64 0]) ∧ Reads w' a (bodyL s).length (bodyL s)) ∨
    (openB s = false ∧ e = .returned (.tuple #[.int .u8 0, .slice none 0 0, .int .i64 21])))

end Go.Proofs.Ytebkkbmplndcpaa
