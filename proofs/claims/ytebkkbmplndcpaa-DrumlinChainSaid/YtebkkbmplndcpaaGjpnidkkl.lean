/- The document's disk: deeds, arming. The two ports: numbers on their way to bytes, and from there. part.Num at one kind of numbers: uint32. part.Num at one kind of numbers: int. Things of numbers, laid through a port field by field. An inode, laid through a port, written and read. -/
import Derived.Test.YtebkkbmplndcpaaGekgpklfl
import Derived.Test.YtebkkbmplndcpaaGcobodhkl
import Derived.Test.YtebkkbmplndcpaaGafmboihi
import Derived.Test.YtebkkbmplndcpaaHush
import Derived.Deep.RegionHeld3
namespace Go.Proofs.Ytebkkbmplndcpaa
open Go.RowKit Go.Sort
set_option linter.unusedVariables false
set_option linter.unusedSimpArgs false
set_option maxRecDepth 100000

def Five (w : World) (g : Nat) (a b c d e : Value) : Prop := w.cell? ⟨g, 0, none⟩ = some a ∧ w.cell? ⟨g, 1, none⟩ = some b ∧ w.cell? ⟨g, 2, none⟩ = some c ∧ w.cell? ⟨g, 3, none⟩ = some d ∧ w.cell? ⟨g, 4, none⟩ = some e
def armI (D : DiskD) : Int := if D.armed then D.left else -1

theorem cell_alloc_top (w : World) (cs : Array Value) (t : TypeId) (i : Nat) : (w.alloc (.cells cs t)).cell? ⟨w.heap.size, i, none⟩ = cs[i]? := by
  unfold World.cell?
  rw [heap_alloc_new]
  rfl
theorem five_top (w : World) (t : TypeId) (a b c d e : Value) : Five (w.alloc (.cells #[a, b, c, d, e] t)) w.heap.size a b c d e :=
  ⟨cell_alloc_top .., cell_alloc_top .., cell_alloc_top .., cell_alloc_top .., cell_alloc_top ..⟩
theorem five_top2 (w : World) (o : Obj) (t : TypeId) (a b c d e : Value) : Five ((w.alloc o).alloc (.cells #[a, b, c, d, e] t)) (w.heap.size + 1) a b c d e := by
  have := five_top (w.alloc o) t a b c d e
  rwa [World.size_alloc] at this
theorem below_two (w : World) (o o' : Obj) : Below w.heap.size w ((w.alloc o).alloc o') := below_next (below_box w o) (below_box _ o')

theorem armI_deed {D : DiskD} (hd : D.dead = false) : (deedD D).dead = decide (armI D = 0) ∧ armI (deedD D) = (if 0 < armI D then armI D - 1 else armI D) ∧ (((deedD D).deeds : Nat) : Int) = (if armI D = 0 then (D.deeds : Int) else D.deeds + 1) ∧ deedE D = (if armI D = 0 then 20 else 0) := by
  cases ha : D.armed with
  | false =>
    have hs : strikeB D = false := by unfold strikeB; rw [hd, ha]; rfl
    have e1 : armI D = -1 := by unfold armI; rw [ha]; rfl
    have e0 : deedD D = { strikeD D with deeds := D.deeds + 1 } := by unfold deedD; rw [if_neg (by rw [hs]; decide)]
    rw [e1, e0]
    refine ⟨hs, ?_, by simp, by unfold deedE; rw [hs]; rfl⟩
    unfold armI
    show (if D.armed then _ else _) = _
    rw [ha]; rfl
  | true =>
    have e1 : armI D = D.left := by unfold armI; rw [ha]; rfl
    by_cases hl : D.left = 0
    · have hs : strikeB D = true := by unfold strikeB; rw [hd, ha, hl]; rfl
      have e0 : deedD D = strikeD D := if_pos hs
      rw [e1, e0, hl]
      refine ⟨hs, ?_, rfl, by unfold deedE; rw [hs]; rfl⟩
      unfold armI
      show (if D.armed then (((if D.armed && !strikeB D then D.left - 1 else D.left) : Nat) : Int) else _) = _
      rw [ha, hs, hl]; rfl
    · have hs : strikeB D = false := by unfold strikeB; rw [hd, ha]; simp [hl]
      have e0 : deedD D = { strikeD D with deeds := D.deeds + 1 } := by unfold deedD; rw [if_neg (by rw [hs]; decide)]
      rw [e1, e0]
      have hI : ¬ ((D.left : Int) = 0) := by omega
      refine ⟨?_, ?_, ?_, ?_⟩
      · rw [decide_eq_false hI]; exact hs
      · unfold armI
        show (if D.armed then (((if D.armed && !strikeB D then D.left - 1 else D.left) : Nat) : Int) else _) = _
        rw [ha, hs, if_pos (show 0 < (D.left : Int) by omega)]
        show (((D.left - 1 : Nat)) : Int) = _
        omega
      · rw [if_neg hI]; simp
      · rw [if_neg hI]; unfold deedE; rw [hs]; rfl

end Go.Proofs.Ytebkkbmplndcpaa

namespace Go.Proofs.Ytebkkbmplndcpaa
open Go.RowKit Go.Sort
set_option linter.unusedVariables false
set_option linter.unusedSimpArgs false
set_option maxRecDepth 100000

/-- A port's state: what was written, and whether a number had no room; or what is left to read. -/
inductive PS where
  | wr (l : List Nat) (f : Bool)
  | rd (b : List Nat)
/-- The number that comes out, and the state behind it. -/
def PS.num (S : PS) (q n : Nat) : Nat := match S with
  | .wr _ _ => n
  | .rd b => if q ≤ b.length then le (b.take q) else 0
def PS.next (S : PS) (q n : Nat) : PS := match S with
  | .wr l f => if n < 256 ^ q then .wr (l ++ low n q) f else .wr (l ++ List.replicate q 0) true
  | .rd b => if q ≤ b.length then .rd (b.drop q) else .rd []
/-- It may be used so many bytes more. -/
def PS.fits (S : PS) (k : Nat) : Prop := match S with
  | .wr l _ => l.length + k ≤ 2000
  | .rd _ => True
theorem PS.fits_next {S : PS} {q n k : Nat} (h : S.fits (q + k)) : (S.next q n).fits k := by
  cases S with
  | wr l f =>
    unfold PS.fits at h
    unfold PS.next
    dsimp only at h ⊢
    split
    · show (l ++ low n q).length + k ≤ 2000
      rw [List.length_append, low_length]; omega
    · show (l ++ List.replicate q 0).length + k ≤ 2000
      rw [List.length_append, List.length_replicate]; omega
  | rd b =>
    unfold PS.next
    dsimp only
    split <;> trivial

/-- Of what was there, only block g and v's own block may have turned. -/
structure PKeeps (g : Nat) (v : Value) (w w' : World) : Prop where
  os : w'.os = w.os
  tape : w'.tape = w.tape
  output : w'.output = w.output
  size : w.heap.size ≤ w'.heap.size
  block : ∀ k, k < w.heap.size → k ≠ g → v.ownBlock ≠ some k → w'.heap[k]? = w.heap[k]?
theorem PKeeps.refl (g : Nat) (v : Value) (w : World) : PKeeps g v w w := ⟨rfl, rfl, rfl, Nat.le_refl _, fun _ _ _ _ => rfl⟩
theorem PKeeps.of_grown {g : Nat} {v : Value} {w w' : World} (h : w.grownBy w' v.ownBlock) (hs : w.heap.size ≤ w'.heap.size) : PKeeps g v w w' := ⟨h.os, h.tape, h.output, hs, fun k hk _ hv => h.block k hk (fun e => hv e.symm)⟩
theorem PKeeps.set {g : Nat} {v : Value} {w w' : World} (h : PKeeps g v w w') (i : Nat) (u : Value) : PKeeps g v w (w'.setCell ⟨g, i, none⟩ u) :=
  ⟨h.os, h.tape, h.output, by simpa using h.size, fun k hk hg hv => (Below.heap_setCell _ _ _ _ hg).trans (h.block k hk hg hv)⟩

theorem cell_of_row {w : World} {g : Nat} {cs : Array Value} {t : TypeId} (h : w.heap[g]? = some (.cells cs t (0, 0))) (i : Nat) : w.cell? ⟨g, i, none⟩ = cs[i]? := by unfold World.cell?; rw [h]; rfl

theorem wpList_append_zeros {w : World} {ops : Array Oper} {rest : List Oper} {o : Oper} {a : Act} {Q : Exit → Act → World → Prop} (hgd : o.guard = none) (s x : Operand)
    (ho : o.op = .call { callee := .builtin .append, args := #[s, x], argTypes := #[63, 3] })
    (B : Nat) (v : Value) (l : List Nat) (hs : a.eval s = v) (hown : Owns B w v l) (m : Nat) (hx : a.eval x = .int .i64 (m : Nat)) (hm : l.length + m ≤ 100000) (hB : B ≤ w.heap.size)
    (h : ∀ v' w', Owns B w' v' (l ++ List.replicate m 0) → w.grownBy w' v.ownBlock → w.heap.size ≤ w'.heap.size → (∀ k, v'.ownBlock = some k → v.ownBlock = some k ∨ w.heap.size ≤ k) → wpList Try.prog ops Q rest (a.put o.dst v') w') : wpList Try.prog ops Q (o :: rest) a w :=
  wpList_plain hgd fun K hK => by
    obtain ⟨v', w', hr, h1, h2, h3, h4⟩ := run_append_zeros2 w o.type B v l hown m hm hB
    unfold Oper.wp execOp
    simp only [ho, resolve, invoke, builtin, Sem.run_bind, Sem.run_pure, Result.andThen_ok, List.map_toArray, List.map_cons, List.map_nil, hs, hx, hr]
    exact hK _ _ (h v' w' h1 h2 h3 h4)

theorem owns_ne {B : Nat} {w : World} {v : Value} {l : List Nat} {g : Nat} {cs : Array Value} {t : TypeId} (h : Owns B w v l) (hg : w.heap[g]? = some (.cells cs t (0, 0))) (ht : t ≠ 5) : ∀ k, v.ownBlock = some k → k ≠ g := by
  intro k hk
  obtain ⟨_, _, ⟨rfl, _⟩ | ⟨gc, cap, cur, rfl, _, q, _⟩⟩ := h
  · cases hk
  · simp only [Value.ownBlock, Option.some.injEq] at hk
    subst hk
    rintro rfl
    rw [hg] at q
    injection q with q
    injection q with _ q
    exact ht q
theorem owns_lt {B : Nat} {w : World} {v : Value} {l : List Nat} (h : Owns B w v l) : ∀ k, v.ownBlock = some k → B ≤ k := fun k hk => (World.ownsRow.lt h.2 k hk).1
theorem below_grown {B : Nat} {w w' : World} {v : Value} {l : List Nat} (ho : Owns B w v l) (hg : w.grownBy w' v.ownBlock) (hB : B ≤ w.heap.size) : Below B w w' :=
  (Below.refl B w).grown hg hB (owns_lt ho)
/-- A cell of the port's own block is stored; its bytes lie elsewhere. -/
theorem owns_set {B : Nat} {w : World} {v : Value} {l : List Nat} {g : Nat} (h : Owns B w v l) (hne : ∀ k, v.ownBlock = some k → k ≠ g) (i : Nat) (u : Value) : Owns B (w.setCell ⟨g, i, none⟩ u) v l := by
  obtain ⟨h1, h2, h3⟩ := h
  refine ⟨h1, h2, ?_⟩
  rcases h3 with h3 | ⟨gc, cap, cur, e, q, r, s⟩
  · exact .inl h3
  · exact .inr ⟨gc, cap, cur, e, q, (Below.heap_setCell _ _ _ _ (by rw [e] at hne; exact hne gc rfl)).trans r, s⟩
theorem putL_end (l : List Nat) (q n : Nat) : putL (l ++ List.replicate q 0) l.length q n = l ++ low n q := by
  unfold putL
  rw [List.take_left' rfl, List.drop_of_length_le (by simp), List.append_nil]

theorem reads_set {w : World} {a : Option Addr} {len : Nat} {l : List Nat} {g : Nat} (h : Reads w a len l) (hne : ∀ {blk off}, a = some ⟨blk, off, none⟩ → blk ≠ g) (i : Nat) (u : Value) : Reads (w.setCell ⟨g, i, none⟩ u) a len l := by
  obtain ⟨h1, h2, h3⟩ := h
  refine ⟨h1, h2, ?_⟩
  rcases h3 with h3 | ⟨blk, off, e, hb, hc⟩
  · exact .inl h3
  · exact .inr ⟨blk, off, e, by simpa using hb, fun j hj => (World.cell?_of_block (a := ⟨blk, off + j, none⟩) (Below.heap_setCell _ _ _ _ (hne e))).trans (hc j hj)⟩

/-! ### A port as an interface's value -/
/-- The block of a cell that is stored. -/
theorem row_stored {w1 : World} {gx i : Nat} {cs : Array Value} {t : TypeId} {u : Value} (h : w1.heap[gx]? = some (.cells cs t (0, 0))) : (w1.setCell ⟨gx, i, none⟩ u).heap[gx]? = some (.cells (cs.setIfInBounds i u) t (0, 0)) := heap_setCell_same w1 gx i _ _ _ h
theorem num_lt {b : List Nat} (h : Bytes b) (q n : Nat) (hq : q ≤ 8) : PS.num (.rd b) q n < 256 ^ q := by
  unfold PS.num
  dsimp only
  split
  · have := le_lt (b.take q) (h.take q)
    rw [List.length_take, Nat.min_eq_left (by assumption)] at this
    exact this
  · exact Nat.pow_pos (by omega)

theorem u32_small {z : Nat} (h : z < 4294967296) : IntKind.u32.wrap (z : Int) = z := by
  simp only [IntKind.wrap, IntKind.bits, IntKind.signed]
  simp
  omega
theorem below_free {B : Nat} {w w' : World} (h : Below B w w') {g o : Nat} (hg : g < B) : w'.frozen? ⟨g, o, none⟩ = w.frozen? ⟨g, o, none⟩ := World.frozen?_of_block (a := ⟨g, o, none⟩) (h.block g hg)
theorem u64_small {z : Nat} (h : z < 18446744073709551616) : IntKind.u64.wrap (z : Int) = z := by
  simp only [IntKind.wrap, IntKind.bits, IntKind.signed]
  simp
  omega

theorem u8_small {z : Nat} (h : z < 256) : IntKind.u8.wrap (z : Int) = z := by
  simp only [IntKind.wrap, IntKind.bits, IntKind.signed]
  simp
  omega
theorem wp_any_post2 {P : Program} {id : Nat} {ops : Array Oper} {b : Bool} {Q : Exit → Act → World → Prop} {a : Act} {w : World} (R : Act → World → Prop) (h : ∀ Q' : Exit → Act → World → Prop, (∀ a' w', R a' w' → Q' .normal a' w') → (Code.region id ops b).wp P (NoPanic Q') a w) (k : ∀ a' w', R a' w' → Q .normal a' w') : (Code.region id ops b).wp P Q a w := wp_region_noPanic (h Q k)

end Go.Proofs.Ytebkkbmplndcpaa
namespace Go.Proofs.Ytebkkbmplndcpaa
open Go.RowKit Go.Sort
set_option linter.unusedVariables false
set_option linter.unusedSimpArgs false
set_option maxRecDepth 100000

end Go.Proofs.Ytebkkbmplndcpaa
namespace Go.Proofs.Ytebkkbmplndcpaa
open Go.RowKit Go.Sort
set_option linter.unusedVariables false
set_option linter.unusedSimpArgs false
set_option maxRecDepth 100000

def u64of (z : Int) : Nat := (z % 18446744073709551616).toNat
theorem u64of_is (z : Int) : IntKind.u64.wrap z = (u64of z : Int) := by
  unfold u64of
  simp only [IntKind.wrap, IntKind.bits, IntKind.signed]
  simp
  omega
theorem u64of_lt (z : Int) : u64of z < 18446744073709551616 := by unfold u64of; omega
theorem u64of_back {z : Int} (h : I64 z) : IntKind.i64.wrap (u64of z : Int) = z := by
  unfold u64of
  unfold I64 at h
  simp only [IntKind.wrap, IntKind.bits, IntKind.signed]
  simp
  omega
theorem i64_small {z : Nat} (h : z < 9223372036854775808) : IntKind.i64.wrap (z : Int) = z := by
  simp only [IntKind.wrap, IntKind.bits, IntKind.signed]
  simp
  omega
/-- The integer that comes out. -/
def PS.numI (S : PS) (q : Nat) (z : Int) : Int := match S with
  | .wr _ _ => z
  | .rd b => (PS.num (.rd b) q 0 : Nat)

end Go.Proofs.Ytebkkbmplndcpaa
namespace Go.Proofs.Ytebkkbmplndcpaa
open Go.RowKit Go.Sort
set_option linter.unusedVariables false
set_option linter.unusedSimpArgs false
set_option maxRecDepth 100000

/-- A field: its kind, its width, its number. -/
structure FldD where
  kind : IntKind
  width : Nat
  z : Int
def cellsF (l : List FldD) : Array Value := (l.map fun x => Value.int x.kind x.z).toArray
/-- The port's state behind fields, and the fields that come out. -/
def stS : PS → List FldD → PS
  | S, [] => S
  | S, x :: r => stS (S.next x.width (u64of x.z)) r
def stO : PS → List FldD → List FldD
  | _, [] => []
  | S, x :: r => { x with z := S.numI x.width x.z } :: stO (S.next x.width (u64of x.z)) r
def widths : List FldD → Nat
  | [] => 0
  | x :: r => x.width + widths r
theorem stS_snoc : ∀ (l : List FldD) (S : PS) (x : FldD), stS S (l ++ [x]) = (stS S l).next x.width (u64of x.z)
  | [], _, _ => rfl
  | y :: l, S, x => stS_snoc l _ x
theorem stO_snoc : ∀ (l : List FldD) (S : PS) (x : FldD), stO S (l ++ [x]) = stO S l ++ [{ x with z := (stS S l).numI x.width x.z }]
  | [], _, _ => rfl
  | y :: l, S, x => by
    show _ :: stO _ (l ++ [x]) = _ :: (stO _ l ++ _)
    rw [stO_snoc l]
    rfl
theorem stO_length : ∀ (l : List FldD) (S : PS), (stO S l).length = l.length
  | [], _ => rfl
  | x :: l, S => by show (stO _ l).length + 1 = l.length + 1; rw [stO_length l]
theorem fits_less {S : PS} {j k : Nat} (h : S.fits k) (hj : j ≤ k) : S.fits j := by
  cases S with
  | wr l f => unfold PS.fits at h ⊢; dsimp only at h ⊢; omega
  | rd b => trivial
theorem fits_at : ∀ (l : List FldD) (S : PS) (k : Nat), S.fits (widths l + k) → (stS S l).fits k
  | [], S, k, h => fits_less h (by show k ≤ 0 + k; omega)
  | x :: l, S, k, h => by
    refine fits_at l _ k (PS.fits_next ?_)
    have e : widths (x :: l) + k = x.width + (widths l + k) := by show x.width + widths l + k = _; omega
    rw [e] at h
    exact h
theorem widths_take : ∀ (l : List FldD) (m : Nat) (x : FldD), l[m]? = some x → widths (l.take m) + x.width ≤ widths l
  | [], m, x, h => by simp at h
  | y :: l, 0, x, h => by
    simp only [List.getElem?_cons_zero, Option.some.injEq] at h
    subst h
    show 0 + y.width ≤ y.width + widths l
    omega
  | y :: l, m + 1, x, h => by
    have := widths_take l m x (by simpa using h)
    show y.width + widths (l.take m) + x.width ≤ y.width + widths l
    omega

def fieldsAt (S : PS) (l : List FldD) (m : Nat) : List FldD := stO S (l.take m) ++ l.drop m
theorem fieldsAt_get {S : PS} {l : List FldD} {m : Nat} {x : FldD} (h : l[m]? = some x) : (cellsF (fieldsAt S l m))[m]? = some (.int x.kind x.z) := by
  have hm : m < l.length := (List.getElem?_eq_some_iff.1 h).1
  unfold cellsF fieldsAt
  simp only [List.getElem?_toArray, List.getElem?_map]
  rw [List.getElem?_append_right (by rw [stO_length, List.length_take]; omega), stO_length, List.length_take, Nat.min_eq_left (by omega), Nat.sub_self, List.getElem?_drop, Nat.add_zero, h]
  rfl
theorem fieldsAt_set {S : PS} {l : List FldD} {m : Nat} {x : FldD} (h : l[m]? = some x) : (cellsF (fieldsAt S l m)).setIfInBounds m (.int x.kind ((stS S (l.take m)).numI x.width x.z)) = cellsF (fieldsAt S l (m + 1)) := by
  have hm : m < l.length := (List.getElem?_eq_some_iff.1 h).1
  have e1 : l.drop m = x :: l.drop (m + 1) := by
    rw [List.drop_eq_getElem_cons hm]
    rw [List.getElem?_eq_getElem hm] at h
    cases h
    rfl
  have e2 : l.take (m + 1) = l.take m ++ [x] := by rw [List.take_add_one, h]; rfl
  unfold cellsF fieldsAt
  rw [e1, e2, stO_snoc, List.append_assoc]
  apply Array.ext'
  simp only [List.setIfInBounds_toArray, List.map_append, List.map_cons]
  rw [List.set_append_right _ _ (by rw [List.length_map, stO_length, List.length_take]; omega)]
  rw [List.length_map, stO_length, List.length_take, Nat.min_eq_left (by omega), Nat.sub_self]
  rfl
theorem numI_nat (S : PS) (q z : Nat) : S.numI q (z : Int) = (S.num q z : Nat) := by cases S <;> rfl
theorem u64of_nat {z : Nat} (h : z < 18446744073709551616) : u64of (z : Int) = z := by unfold u64of; omega

end Go.Proofs.Ytebkkbmplndcpaa
namespace Go.Proofs.Ytebkkbmplndcpaa
open Go.RowKit Go.Sort
set_option linter.unusedVariables false
set_option linter.unusedSimpArgs false
set_option maxRecDepth 100000

def kindI (m : Nat) : IntKind := if m = 0 ∨ m = 1 ∨ m = 4 then .u32 else .i64
def widthI (m : Nat) : Nat := if m = 0 then 2 else if m = 2 then 1 else 4
def okZ (k : IntKind) (z : Int) : Prop := match k with
  | .u32 => 0 ≤ z ∧ z < 4294967296
  | .i64 => I64 z
  | _ => True
/-- The fields of an inode. -/
def IsInode (l : List FldD) : Prop := l.length = 15 ∧ ∀ m, m < 15 → ∃ z, l[m]? = some ⟨kindI m, widthI m, z⟩ ∧ okZ (kindI m) z

theorem owned_slice {w : World} {B : Nat} {e : TypeId} {size : Nat} {v : Value} {n : Nat} {xs : List Value} (h : w.ownsRow B e size v n xs) : ∃ a l c, v = .slice a l c := by
  obtain ⟨_, ⟨rfl, _⟩ | ⟨gc, cap, cur, rfl, _⟩⟩ := h
  · exact ⟨_, _, _, rfl⟩
  · exact ⟨_, _, _, rfl⟩

/-! ### part.Write -/
theorem stS_wr : ∀ (l : List FldD) (b : List Nat) (f : Bool), ∃ b' f', stS (.wr b f) l = .wr b' f'
  | [], b, f => ⟨b, f, rfl⟩
  | x :: l, b, f => by
    show ∃ b' f', stS (PS.next (.wr b f) x.width (u64of x.z)) l = .wr b' f'
    unfold PS.next
    dsimp only
    split
    · exact stS_wr l _ _
    · exact stS_wr l _ _
/-- What is written of fields, and whether one had no room. -/
def wrB (l : List FldD) : List Nat := match stS (.wr [] false) l with | .wr b _ => b | .rd _ => []
def wrF (l : List FldD) : Bool := match stS (.wr [] false) l with | .wr _ f => f | .rd _ => true
theorem stS_is (l : List FldD) : stS (.wr [] false) l = .wr (wrB l) (wrF l) := by
  obtain ⟨b, f, e⟩ := stS_wr l [] false
  unfold wrB wrF
  rw [e]
theorem owns_raise {B : Nat} {w : World} {v : Value} {l : List Nat} (h : Owns 0 w v l) (hB : ∀ k, k < B → v.ownBlock ≠ some k) : Owns B w v l := by
  obtain ⟨h1, h2, h3⟩ := h
  refine ⟨h1, h2, ?_⟩
  rcases h3 with h3 | ⟨g, cap, cur, rfl, _, r⟩
  · exact .inl h3
  · exact .inr ⟨g, cap, cur, rfl, Nat.le_of_not_lt fun hg => hB g hg rfl, r⟩

/-! ### part.Read -/
/-- No inode. -/
def zeroI : List FldD := (List.range 15).map fun m => ⟨kindI m, widthI m, 0⟩
theorem zeroI_is : IsInode zeroI := by
  refine ⟨rfl, fun m hm => ⟨0, ?_, ?_⟩⟩
  · unfold zeroI
    rw [List.getElem?_map, List.getElem?_range hm]
    rfl
  · unfold okZ I64
    split <;> first | trivial | omega
/-- What is read of bytes. -/
def rdI (b : List Nat) : List FldD := stO (.rd b) zeroI
theorem stO_rd : ∀ (l : List FldD) (b : List Nat), Bytes b → (∀ x ∈ l, x.width ≤ 4) → ∀ (m : Nat) (x : FldD), l[m]? = some x → ∃ z : Int, (stO (.rd b) l)[m]? = some ⟨x.kind, x.width, z⟩ ∧ 0 ≤ z ∧ z < 4294967296
  | [], _, _, _, m, x, h => by simp at h
  | y :: l, b, hb, hw, 0, x, h => by
    simp only [List.getElem?_cons_zero, Option.some.injEq] at h
    subst h
    have h1 := num_lt hb y.width 0 (by have := hw y (List.mem_cons_self ..); omega)
    have h2 : 256 ^ y.width ≤ 4294967296 := Nat.le_trans (Nat.pow_le_pow_right (by omega) (hw y (List.mem_cons_self ..))) (by decide)
    exact ⟨_, rfl, Int.natCast_nonneg _, by show ((PS.num (.rd b) y.width 0 : Nat) : Int) < _; omega⟩
  | y :: l, b, hb, hw, m + 1, x, h => by
    have e : ∃ b', PS.next (.rd b) y.width (u64of y.z) = .rd b' ∧ Bytes b' := by
      unfold PS.next
      dsimp only
      split
      · exact ⟨_, rfl, hb.drop _⟩
      · exact ⟨_, rfl, by intro x hx; simp at hx⟩
    obtain ⟨b', e, hb'⟩ := e
    show ∃ z, (stO (PS.next (.rd b) y.width (u64of y.z)) l)[m]? = _ ∧ _
    rw [e]
    exact stO_rd l b' hb' (fun x hx => hw x (List.mem_cons_of_mem _ hx)) m x (by simpa using h)
theorem zeroI_width : ∀ x ∈ zeroI, x.width ≤ 4 := by decide
theorem rdI_is {b : List Nat} (hb : Bytes b) : IsInode (rdI b) := by
  refine ⟨by unfold rdI; rw [stO_length]; rfl, fun m hm => ?_⟩
  obtain ⟨z0, e0, _⟩ := zeroI_is.2 m hm
  obtain ⟨z, e, h1, h2⟩ := stO_rd zeroI b hb zeroI_width m _ e0
  refine ⟨z, e, ?_⟩
  unfold okZ I64
  split <;> first | trivial | omega

theorem cellsF_size (l : List FldD) : (cellsF l).size = l.length := by simp [cellsF]
theorem cellsF_one (l : List FldD) : (cellsF l).all (·.oneCell') = true := by
  refine Array.all_eq_true_iff_forall_mem.2 fun v hv => ?_
  simp only [cellsF, List.mem_toArray, List.mem_map] at hv
  obtain ⟨x, _, rfl⟩ := hv
  rfl
theorem row_range {w : World} {g : Nat} {cs : Array Value} {t : TypeId} (h : w.heap[g]? = some (.cells cs t (0, 0))) : w.rangeAt g 0 cs.toList := fun j v hv => by
  rw [Nat.zero_add, cell_of_row h, ← hv]
  simp

end Go.Proofs.Ytebkkbmplndcpaa
