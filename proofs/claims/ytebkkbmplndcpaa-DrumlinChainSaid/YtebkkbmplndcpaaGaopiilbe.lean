/- A disk in memory, and the program's small calls on it, by their walks. -/
import Derived.Test.YtebkkbmplndcpaaGdmcfliee
import Derived.Test.YtebkkbmplndcpaaHush
namespace Go.Proofs.Ytebkkbmplndcpaa
open Go.RowKit Go.Sort
set_option linter.unusedVariables false
set_option maxRecDepth 100000

/-- A disk as a plain thing; its sectors' slice may have room behind them, with whatever in it. -/
structure DiskD where
  dead : Bool
  armed : Bool
  left : Nat
  secs : List (List Nat)
  cache : List (Nat × List Nat)
  deeds : Nat
  room : Nat
  junk : List Value
def secV (l : List (List Nat)) : List Value := l.flatMap fun s => s.map byteV
def wrV (p : Nat × List Nat) : List Value := .int .i64 p.1 :: p.2.map byteV
def cacheV (l : List (Nat × List Nat)) : List Value := l.flatMap wrV
/-- The disk's own cells. -/
def headV (D : DiskD) (gs : Nat) (cv : Value) : Array Value := #[.bool D.dead, .bool D.armed, .int .i64 D.left, .slice (some ⟨gs, 0, none⟩) D.secs.length D.room, cv, .int .i64 D.deeds]
/-- It may be a disk: whole sectors, whose numbers are there. -/
def DiskD.ok (D : DiskD) : Prop := (∀ s ∈ D.secs, s.length = 128 ∧ Bytes s) ∧ (∀ p ∈ D.cache, p.1 < D.secs.length ∧ p.2.length = 128 ∧ Bytes p.2) ∧ 1 ≤ D.secs.length ∧ D.secs.length ≤ 65536 ∧ D.cache.length ≤ 1000000 ∧ D.deeds ≤ 1000000 ∧ D.left ≤ 9223372036854775807
/-- Why a sector can't be read or written. -/
def refI (D : DiskD) (at_ : Int) : Int := if at_ < 0 ∨ (D.secs.length : Int) ≤ at_ then 1 else if D.dead then 20 else 0
/-! ### Deeds -/
def strikeB (D : DiskD) : Bool := D.dead || (D.armed && decide (D.left = 0))
def strikeD (D : DiskD) : DiskD := { D with dead := strikeB D, left := if D.armed && !strikeB D then D.left - 1 else D.left }
def deedD (D : DiskD) : DiskD := if strikeB D then strikeD D else { strikeD D with deeds := D.deeds + 1 }
def deedE (D : DiskD) : Int := if strikeB D then 20 else 0
end Go.Proofs.Ytebkkbmplndcpaa
