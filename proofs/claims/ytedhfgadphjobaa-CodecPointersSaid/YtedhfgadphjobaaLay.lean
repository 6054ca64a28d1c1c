/- Things of numbers, laid through a port field by field. -/
import Derived.Test.YtedhfgadphjobaaPortU32
import Derived.Test.YtedhfgadphjobaaPortI64
namespace Go.Proofs.Ytedhfgadphjobaa
open Go.RowKit Go.Sort
set_option linter.unusedVariables false
set_option linter.unusedSimpArgs false
set_option maxRecDepth 100000

/-- A field: its kind, its width, its number. -/
structure FldD where
  kind : IntKind
  width : Nat
  z : Int
def cellsF (l : List FldD) : Array Value := (l.map fun x => Value.int x.kind x.z).toArray
/-- The port's state behind fields, and the fields that come out. -/
def stS : PS → List FldD → PS
  | S, [] => S
  | S, x :: r => stS (S.next x.width (u64of x.z)) r
def stO : PS → List FldD → List FldD
  | _, [] => []
  | S, x :: r => { x with z := S.numI x.width x.z } :: stO (S.next x.width (u64of x.z)) r
def widths : List FldD → Nat
  | [] => 0
  | x :: r => x.width + widths r
theorem stS_snoc : ∀ (l : List FldD) (S : PS) (x : FldD), stS S (l ++ [x]) = (stS S l).next x.width (u64of x.z)
  | [], _, _ => rfl
  | y :: l, S, x => stS_snoc l _ x
theorem stO_snoc : ∀ (l : List FldD) (S : PS) (x : FldD), stO S (l ++ [x]) = stO S l ++ [{ x with z := (stS S l).numI x.width x.z }]
  | [], _, _ => rfl
  | y :: l, S, x => by
    show _ :: stO _ (l ++ [x]) = _ :: (stO _ l ++ _)
    rw [stO_snoc l]
    rfl
theorem stO_length : ∀ (l : List FldD) (S : PS), (stO S l).length = l.length
  | [], _ => rfl
  | x :: l, S => by show (stO _ l).length + 1 = l.length + 1; rw [stO_length l]
theorem fits_less {S : PS} {j k : Nat} (h : S.fits k) (hj : j ≤ k) : S.fits j := by
  cases S with
  | wr l f => unfold PS.fits at h ⊢; dsimp only at h ⊢; omega
  | rd b => trivial
theorem fits_at : ∀ (l : List FldD) (S : PS) (k : Nat), S.fits (widths l + k) → (stS S l).fits k
  | [], S, k, h => fits_less h (by show k ≤ 0 + k; omega)
  | x :: l, S, k, h => by
    refine fits_at l _ k (PS.fits_next ?_)
    have e : widths (x :: l) + k = x.width + (widths l + k) := by show x.width + widths l + k = _; omega
    rw [e] at h
    exact h
theorem widths_take : ∀ (l : List FldD) (m : Nat) (x : FldD), l[m]? = some x → widths (l.take m) + x.width ≤ widths l
  | [], m, x, h => by simp at h
  | y :: l, 0, x, h => by
    simp only [List.getElem?_cons_zero, Option.some.injEq] at h
    subst h
    show 0 + y.width ≤ y.width + widths l
    omega
  | y :: l, m + 1, x, h => by
    have := widths_take l m x (by simpa using h)
    show y.width + widths (l.take m) + x.width ≤ y.width + widths l
    omega

def fieldsAt (S : PS) (l : List FldD) (m : Nat) : List FldD := stO S (l.take m) ++ l.drop m
theorem fieldsAt_get {S : PS} {l : List FldD} {m : Nat} {x : FldD} (h : l[m]? = some x) : (cellsF (fieldsAt S l m))[m]? = some (.int x.kind x.z) := by
  have hm : m < l.length := (List.getElem?_eq_some_iff.1 h).1
  unfold cellsF fieldsAt
  simp only [List.getElem?_toArray, List.getElem?_map]
  rw [List.getElem?_append_right (by rw [stO_length, List.length_take]; omega), stO_length, List.length_take, Nat.min_eq_left (by omega), Nat.sub_self, List.getElem?_drop, Nat.add_zero, h]
  rfl
theorem fieldsAt_set {S : PS} {l : List FldD} {m : Nat} {x : FldD} (h : l[m]? = some x) : (cellsF (fieldsAt S l m)).setIfInBounds m (.int x.kind ((stS S (l.take m)).numI x.width x.z)) = cellsF (fieldsAt S l (m + 1)) := by
  have hm : m < l.length := (List.getElem?_eq_some_iff.1 h).1
  have e1 : l.drop m = x :: l.drop (m + 1) := by
    rw [List.drop_eq_getElem_cons hm]
    rw [List.getElem?_eq_getElem hm] at h
    cases h
    rfl
  have e2 : l.take (m + 1) = l.take m ++ [x] := by rw [List.take_add_one, h]; rfl
  unfold cellsF fieldsAt
  rw [e1, e2, stO_snoc, List.append_assoc]
  apply Array.ext'
  simp only [List.setIfInBounds_toArray, List.map_append, List.map_cons]
  rw [List.set_append_right _ _ (by rw [List.length_map, stO_length, List.length_take]; omega)]
  rw [List.length_map, stO_length, List.length_take, Nat.min_eq_left (by omega), Nat.sub_self]
  rfl
/-- Behind m fields. -/
structure LayAt (l : List FldD) (gx : Nat) (t : TypeId) (w0 : World) (pv : Value) (S : PS) (m : Nat) (w : World) : Prop where
  row : w.heap[gx]? = some (.cells (cellsF (fieldsAt S l m)) t (0, 0))
  passed : Passed gx w0 pv S w (stS S (l.take m))
  size : gx < w0.heap.size
  away : Away w0 pv S gx
  room : S.fits (widths l)
theorem layAt_start {l : List FldD} {gx : Nat} {t : TypeId} {w : World} {pv : Value} {S : PS} (h : IsPort w pv S) (hx : w.heap[gx]? = some (.cells (cellsF l) t (0, 0))) (hax : Away w pv S gx) (hf : S.fits (widths l)) : LayAt l gx t w pv S 0 w :=
  ⟨hx, ⟨rfl, rfl, rfl, Nat.le_refl _, fun _ _ _ _ => rfl, fun _ _ h => h, fun _ _ h => h, h⟩, (Array.getElem?_eq_some_iff.1 hx).1, hax, hf⟩
theorem LayAt.next {l : List FldD} {gx m : Nat} {t : TypeId} {w0 w w' : World} {pv : Value} {S : PS} {x : FldD} (h : LayAt l gx t w0 pv S m w) (hx : l[m]? = some x)
    (hr : w'.heap[gx]? = some (.cells ((cellsF (fieldsAt S l m)).setIfInBounds m (.int x.kind ((stS S (l.take m)).numI x.width x.z))) t (0, 0))) (hp : Passed gx w pv (stS S (l.take m)) w' ((stS S (l.take m)).next x.width (u64of x.z))) : LayAt l gx t w0 pv S (m + 1) w' := by
  refine ⟨by rw [hr, fieldsAt_set hx], ?_, h.size, h.away, h.room⟩
  have e2 : l.take (m + 1) = l.take m ++ [x] := by rw [List.take_add_one, hx]; rfl
  rw [e2, stS_snoc]
  exact h.passed.trans hp
theorem LayAt.fits {l : List FldD} {gx m : Nat} {t : TypeId} {w0 w : World} {pv : Value} {S : PS} {x : FldD} (h : LayAt l gx t w0 pv S m w) (hx : l[m]? = some x) : (stS S (l.take m)).fits x.width :=
  fits_at _ _ _ (fits_less h.room (widths_take l m x hx))
theorem numI_nat (S : PS) (q z : Nat) : S.numI q (z : Int) = (S.num q z : Nat) := by cases S <;> rfl
theorem u64of_nat {z : Nat} (h : z < 18446744073709551616) : u64of (z : Int) = z := by unfold u64of; omega

theorem lay_u32 {l : List FldD} {gx m : Nat} {t : TypeId} {w0 w : World} {pv : Value} {S : PS} {q : Nat} {z : Int} (h : LayAt l gx t w0 pv S m w) (hx : l[m]? = some ⟨.u32, q, z⟩) (hz : 0 ≤ z ∧ z < 4294967296) (hq : 1 ≤ q) (hq4 : q ≤ 4) :
    Calls Try.prog 133 #[pv, .int .i64 q, .pointer (some ⟨gx, m, none⟩)] w fun e w' => e = .returned (.tuple #[]) ∧ LayAt l gx t w0 pv S (m + 1) w' := by
  obtain ⟨n, rfl⟩ := Int.eq_ofNat_of_zero_le hz.1
  have hn : n < 4294967296 := by omega
  refine (pnum_u32 (h.passed.port) h.row (h.passed.away gx h.size h.away) q hq hq4 (h.fits hx) (fieldsAt_get hx) hn).mono ?_
  rintro e w' ⟨rfl, h1, h2⟩
  refine ⟨rfl, h.next hx ?_ ?_⟩
  · rw [h1]
    show some (Obj.cells (Array.setIfInBounds _ m (Value.int .u32 _)) t (0, 0)) = some (Obj.cells (Array.setIfInBounds _ m (Value.int .u32 ((stS S (l.take m)).numI q (n : Int)))) t (0, 0))
    rw [numI_nat]
  · show Passed gx w pv _ w' ((stS S (l.take m)).next q (u64of (n : Int)))
    rw [u64of_nat (by omega)]
    exact h2
theorem lay_i64 {l : List FldD} {gx m : Nat} {t : TypeId} {w0 w : World} {pv : Value} {S : PS} {q : Nat} {z : Int} (h : LayAt l gx t w0 pv S m w) (hx : l[m]? = some ⟨.i64, q, z⟩) (hz : I64 z) (hq : 1 ≤ q) (hq4 : q ≤ 4) :
    Calls Try.prog 119 #[pv, .int .i64 q, .pointer (some ⟨gx, m, none⟩)] w fun e w' => e = .returned (.tuple #[]) ∧ LayAt l gx t w0 pv S (m + 1) w' := by
  refine (pnum_i64 (h.passed.port) h.row (h.passed.away gx h.size h.away) q hq hq4 (h.fits hx) (fieldsAt_get hx) hz).mono ?_
  rintro e w' ⟨rfl, h1, h2⟩
  exact ⟨rfl, h.next hx h1 h2⟩
end Go.Proofs.Ytedhfgadphjobaa
