/- Two disks, each with the document's in a box: what is done to one keeps the other. -/
import Derived.Test.YthainmbapikjiaaGffleligi
import Derived.Test.YthainmbapikjiaaGfnhbgloh
namespace Go.Proofs.Ythainmbapikjiaa
open Go.RowKit Go.Sort
set_option linter.unusedVariables false
set_option linter.unusedSimpArgs false
set_option maxRecDepth 100000

/-- The other disk, and the document's in its box, seen from the disk of g gs cv, whose box is gb. -/
structure Oth (B : Nat) (w : World) (g gs : Nat) (cv : Value) (gb : Nat) (g' gs' : Nat) (cv' : Value) (E : DiskD) (gb' : Nat) (V : Array Value) : Prop where
  dk : IsDisk B w g' gs' cv' E
  ap : Apart g gs cv g' gs' cv'
  rf : RefIs B w E (.agg V)
  bx : w.heap[gb']? = some (.cells V 28 (0, 0))
  nb : gb ≠ gb'
theorem Oth.below {B : Nat} {w w' : World} {g gs gb g' gs' gb' : Nat} {cv cv' : Value} {E : DiskD} {V : Array Value} (h : Oth B w g gs cv gb g' gs' cv' E gb' V) (b : Below w.heap.size w w') : Oth B w' g gs cv gb g' gs' cv' E gb' V :=
  ⟨h.dk.more b, h.ap, h.rf.below b, (b.block gb' (Array.getElem?_eq_some_iff.1 h.bx).1).trans h.bx, h.nb⟩
theorem Oth.step {B B' : Nat} {w w' : World} {g gs gb g' gs' gb' : Nat} {cv cv' cv4 : Value} {D E : DiskD} {V : Array Value} (h : Oth B w g gs cv gb g' gs' cv' E gb' V) (hd : IsDisk B' w g gs cv D) (hk : DKeeps g gs cv w w') (hl : Lies w cv cv4) : Oth B w' g gs cv4 gb g' gs' cv' E gb' V := by
  obtain ⟨n1, n2, n3⟩ := rbox_ne hd h.bx
  exact ⟨h.dk.keptD hd h.ap hk, h.ap.next hl h.dk, h.rf.dkeeps hd hk, (hk.block gb' (Array.getElem?_eq_some_iff.1 h.bx).1 n1 n2 n3).trans h.bx, h.nb⟩
theorem Oth.box {B : Nat} {w w' : World} {g gs gb g' gs' gb' : Nat} {cv cv' : Value} {E : DiskD} {V cs : Array Value} (h : Oth B w g gs cv gb g' gs' cv' E gb' V) (hg : w.grownBy w' (some gb)) (n : w.heap[gb]? = some (.cells cs 28 (0, 0))) : Oth B w' g gs cv gb g' gs' cv' E gb' V :=
  ⟨h.dk.keptR hg n, h.ap, h.rf.keptR hg n, (hg.block gb' (Array.getElem?_eq_some_iff.1 h.bx).1 (fun e => h.nb (Option.some.inj e).symm)).trans h.bx, h.nb⟩
theorem Oth.swap {B : Nat} {w : World} {g gs gb g' gs' gb' : Nat} {cv cv' : Value} {D E : DiskD} {U V : Array Value} (h : Oth B w g gs cv gb g' gs' cv' E gb' V) (hd : IsDisk B w g gs cv D) (hr : RefIs B w D (.agg U)) (hn : w.heap[gb]? = some (.cells U 28 (0, 0))) : Oth B w g' gs' cv' gb' g gs cv D gb U :=
  ⟨hd, h.ap.symm, hr, hn, h.nb.symm⟩
theorem oth_new {B : Nat} {wk wF : World} {g gs gb g' gs' gx room : Nat} {cv cv' : Value} {D : DiskD} {V : Array Value} {junk : List Value} (hd : IsDisk B wk g gs cv D) (hr : RefIs B wk D (.agg V)) (hn : wk.heap[gb]? = some (.cells V 28 (0, 0))) (hT : IsDisk wk.heap.size wF g' gs' cv' { D with room := room, junk := junk }) (b : Below wk.heap.size wk wF) (nF : wF.heap[gx]? = some (.cells V 28 (0, 0))) (hx : wk.heap.size ≤ gx) :
    Oth B wF g gs cv gb g' gs' cv' { D with room := room, junk := junk } gx V ∧ IsDisk B wF g gs cv D ∧ RefIs B wF D (.agg V) ∧ wF.heap[gb]? = some (.cells V 28 (0, 0)) := by
  have hl := (Array.getElem?_eq_some_iff.1 hn).1
  exact ⟨⟨disk_less hT hd.size, apart_new hd hT, hr.below b, nF, by omega⟩, hd.more b, hr.below b, (b.block gb hl).trans hn⟩
end Go.Proofs.Ythainmbapikjiaa
