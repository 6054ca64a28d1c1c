/-
  No cell of these rows narrows 'for every input' (looked for: loops, veiled, ifaces, maps, wideKeys, modest, calm, conditions, laid).
  DERIVED. THE GIVEN ROWS OF THIS SEAT. 5 by the template 'for every input the law returns true; each argument reads behind the call as it read before'; 0 by the template 'total and deterministic' (their statements: YtbpklbicbeckdaaTotals.lean).
  GIVEN WITH THE SEED: the statements are not yours to turn. If you find one false, say at which input.
  Laid BY PROGRAM, IN A SANDBOX (cutbox-rows.mjs): the forced cells as the released guide's own fill.sh prints them over the translation 13797b246786c6bb… (all of the seat's roots in one cut). By AI agents, Wed Nov 11 2026. No macro, syntax, notation, axiom, sorry.
-/
import Derived.Test.YtbpklbicbeckdaaChecked
import GoSem.Claim
import GoSem.ClaimJoined
import GoSem.ClaimMapViews
import Derived.JoinedTies
import Derived.KernelRfl
namespace Go.Proofs.Ytbpklbicbeckdaa
/- THE CELL 'sum', in the pinned program and in every row, IS THE sha256 OF THE DUMP (.gsa) THAT YtbpklbicbeckdaaProg.lean LOADS. Nothing in Lean hashes anything: it is a label: what it is worth is what the hold of that sum in a sandbox is worth. -/
noncomputable def Try.pinned : Pinned := { name := "ytbpklbicbeckdaa", sum := "13797b246786c6bba82bb2781413b5712ed6504104ab8b7c0af05e739e6df75c", checked := Try.checked }
namespace Rows
def none {H : Type} : Left H := { results := [], args := [] }

/-- 'drumlinlaw03.DiskSafe': WHATEVER THE INPUT: true; the input reads as it did. -/
def diskSafeSpec : ChangeSpec := { name := "diskSafe", fn := fun _ => fun
  | [d1, d2, d3] => { results := [.lit (.bool true)], args := [d1, d2, d3] }
  | _ => none }
def diskSafeRow : OpenClaim := { program := "ytbpklbicbeckdaa", sum := "13797b246786c6bba82bb2781413b5712ed6504104ab8b7c0af05e739e6df75c", func := "drumlin/drumlinlaw03.DiskSafe", spec := "diskSafe", unfollowed := true, recurses := true, apart := false }
def DiskSafeSaid : Prop := diskSafeRow.holds Try.pinned (OpenSpec.ofChange diskSafeSpec)

/-- ITS FALSE NEIGHBOUR: 'it returns false'. Refute it at one input. -/
def diskSafeWrong : ChangeSpec := { name := "diskSafe", fn := fun _ => fun
  | [d1, d2, d3] => { results := [.lit (.bool false)], args := [d1, d2, d3] }
  | _ => none }
def DiskSafeWrongFalsely : Prop := diskSafeRow.holds Try.pinned (OpenSpec.ofChange diskSafeWrong)

/-- 'drumlinlaw03.DiskTwins': WHATEVER THE INPUT: true; the input reads as it did. -/
def diskTwinsSpec : ChangeSpec := { name := "diskTwins", fn := fun _ => fun
  | [d1, d2, d3] => { results := [.lit (.bool true)], args := [d1, d2, d3] }
  | _ => none }
def diskTwinsRow : OpenClaim := { program := "ytbpklbicbeckdaa", sum := "13797b246786c6bba82bb2781413b5712ed6504104ab8b7c0af05e739e6df75c", func := "drumlin/drumlinlaw03.DiskTwins", spec := "diskTwins", unfollowed := true, recurses := true, apart := false }
def DiskTwinsSaid : Prop := diskTwinsRow.holds Try.pinned (OpenSpec.ofChange diskTwinsSpec)

/-- ITS FALSE NEIGHBOUR: 'it returns false'. Refute it at one input. -/
def diskTwinsWrong : ChangeSpec := { name := "diskTwins", fn := fun _ => fun
  | [d1, d2, d3] => { results := [.lit (.bool false)], args := [d1, d2, d3] }
  | _ => none }
def DiskTwinsWrongFalsely : Prop := diskTwinsRow.holds Try.pinned (OpenSpec.ofChange diskTwinsWrong)

/-- 'drumlinlaw20.FdFiles': WHATEVER THE INPUT: true; the input reads as it did. -/
def fdFilesSpec : ChangeSpec := { name := "fdFiles", fn := fun _ => fun
  | [d1, d2] => { results := [.lit (.bool true)], args := [d1, d2] }
  | _ => none }
def fdFilesRow : OpenClaim := { program := "ytbpklbicbeckdaa", sum := "13797b246786c6bba82bb2781413b5712ed6504104ab8b7c0af05e739e6df75c", func := "drumlin/drumlinlaw20.FdFiles", spec := "fdFiles", unfollowed := true, recurses := true, apart := false }
def FdFilesSaid : Prop := fdFilesRow.holds Try.pinned (OpenSpec.ofChange fdFilesSpec)

/-- ITS FALSE NEIGHBOUR: 'it returns false'. Refute it at one input. -/
def fdFilesWrong : ChangeSpec := { name := "fdFiles", fn := fun _ => fun
  | [d1, d2] => { results := [.lit (.bool false)], args := [d1, d2] }
  | _ => none }
def FdFilesWrongFalsely : Prop := fdFilesRow.holds Try.pinned (OpenSpec.ofChange fdFilesWrong)

/-- 'drumlinlaw20.FdSets': WHATEVER THE INPUT: true; the input reads as it did. -/
def fdSetsSpec : ChangeSpec := { name := "fdSets", fn := fun _ => fun
  | [d1, d2] => { results := [.lit (.bool true)], args := [d1, d2] }
  | _ => none }
def fdSetsRow : OpenClaim := { program := "ytbpklbicbeckdaa", sum := "13797b246786c6bba82bb2781413b5712ed6504104ab8b7c0af05e739e6df75c", func := "drumlin/drumlinlaw20.FdSets", spec := "fdSets", unfollowed := true, recurses := true, apart := false }
def FdSetsSaid : Prop := fdSetsRow.holds Try.pinned (OpenSpec.ofChange fdSetsSpec)

/-- ITS FALSE NEIGHBOUR: 'it returns false'. Refute it at one input. -/
def fdSetsWrong : ChangeSpec := { name := "fdSets", fn := fun _ => fun
  | [d1, d2] => { results := [.lit (.bool false)], args := [d1, d2] }
  | _ => none }
def FdSetsWrongFalsely : Prop := fdSetsRow.holds Try.pinned (OpenSpec.ofChange fdSetsWrong)

/-- 'drumlinlaw20.FdShares': WHATEVER THE INPUT: true; the input reads as it did. -/
def fdSharesSpec : ChangeSpec := { name := "fdShares", fn := fun _ => fun
  | [d] => { results := [.lit (.bool true)], args := [d] }
  | _ => none }
def fdSharesRow : OpenClaim := { program := "ytbpklbicbeckdaa", sum := "13797b246786c6bba82bb2781413b5712ed6504104ab8b7c0af05e739e6df75c", func := "drumlin/drumlinlaw20.FdShares", spec := "fdShares", unfollowed := true, recurses := true, apart := false }
def FdSharesSaid : Prop := fdSharesRow.holds Try.pinned (OpenSpec.ofChange fdSharesSpec)

/-- ITS FALSE NEIGHBOUR: 'it returns false'. Refute it at one input. -/
def fdSharesWrong : ChangeSpec := { name := "fdShares", fn := fun _ => fun
  | [d] => { results := [.lit (.bool false)], args := [d] }
  | _ => none }
def FdSharesWrongFalsely : Prop := fdSharesRow.holds Try.pinned (OpenSpec.ofChange fdSharesWrong)

/- THE SECOND FORM. 'bulk': how many values and letters a reading holds, each counted each time it is reached (what is shared counts as often as it is met; a slice's spare places count too). A statement '..UptoSaid' is the law's where the arguments, and the package variables that the reading takes, are together of bulk at most 1048576: NARROWER than '..Said'. Prove '..Said' where nothing that the law and all that it calls make is longer than what came in: it says more and counts as full. Else prove '..UptoSaid'. A law counts once. -/
mutual
def uptoBulk {H : Type} : DataW H → Nat
  | .lit (.string bytes) => bytes.length + 1
  | .lit _ => 1
  | .nil => 1
  | .ptr d => uptoBulk d + 1
  | .slice elems spare => uptoBulkAll elems + uptoBulkAll spare + 1
  | .agg parts => uptoBulkAll parts + 1
  | .iface _ d => uptoBulk d + 1
  | .map entries => uptoBulkEntries entries + 1
  | .held _ => 1
def uptoBulkAll {H : Type} : List (DataW H) → Nat
  | [] => 0
  | d :: r => uptoBulk d + uptoBulkAll r
def uptoBulkEntries {H : Type} : List (Lit × DataW H) → Nat
  | [] => 0
  | x :: r => uptoBulkEntry x + uptoBulkEntries r
def uptoBulkEntry {H : Type} : Lit × DataW H → Nat
  | (.string bytes, d) => bytes.length + uptoBulk d + 1
  | (_, d) => uptoBulk d + 1
 end
def uptoSmall : (H : Type) → List (DataW H) → Bool := fun _ ds => decide (uptoBulkAll ds ≤ 1048576)
def OpenSpec.upto (s : _root_.Go.ChangeSpec) : _root_.Go.OpenSpec := { _root_.Go.OpenSpec.ofChange s with cond := some uptoSmall }

/-- 'drumlinlaw03.DiskSafe', WHERE WHAT IT READS IS OF BULK AT MOST 1048576: true; the input reads as it did. -/
def diskSafeUptoRow : OpenClaim := { program := "ytbpklbicbeckdaa", sum := "13797b246786c6bba82bb2781413b5712ed6504104ab8b7c0af05e739e6df75c", func := "drumlin/drumlinlaw03.DiskSafe", spec := "diskSafe", unfollowed := true, recurses := true, apart := false, narrowed := true }
def DiskSafeUptoSaid : Prop := diskSafeUptoRow.holds Try.pinned (OpenSpec.upto diskSafeSpec)

/-- 'drumlinlaw03.DiskTwins', WHERE WHAT IT READS IS OF BULK AT MOST 1048576: true; the input reads as it did. -/
def diskTwinsUptoRow : OpenClaim := { program := "ytbpklbicbeckdaa", sum := "13797b246786c6bba82bb2781413b5712ed6504104ab8b7c0af05e739e6df75c", func := "drumlin/drumlinlaw03.DiskTwins", spec := "diskTwins", unfollowed := true, recurses := true, apart := false, narrowed := true }
def DiskTwinsUptoSaid : Prop := diskTwinsUptoRow.holds Try.pinned (OpenSpec.upto diskTwinsSpec)

/-- 'drumlinlaw20.FdFiles', WHERE WHAT IT READS IS OF BULK AT MOST 1048576: true; the input reads as it did. -/
def fdFilesUptoRow : OpenClaim := { program := "ytbpklbicbeckdaa", sum := "13797b246786c6bba82bb2781413b5712ed6504104ab8b7c0af05e739e6df75c", func := "drumlin/drumlinlaw20.FdFiles", spec := "fdFiles", unfollowed := true, recurses := true, apart := false, narrowed := true }
def FdFilesUptoSaid : Prop := fdFilesUptoRow.holds Try.pinned (OpenSpec.upto fdFilesSpec)

/-- 'drumlinlaw20.FdSets', WHERE WHAT IT READS IS OF BULK AT MOST 1048576: true; the input reads as it did. -/
def fdSetsUptoRow : OpenClaim := { program := "ytbpklbicbeckdaa", sum := "13797b246786c6bba82bb2781413b5712ed6504104ab8b7c0af05e739e6df75c", func := "drumlin/drumlinlaw20.FdSets", spec := "fdSets", unfollowed := true, recurses := true, apart := false, narrowed := true }
def FdSetsUptoSaid : Prop := fdSetsUptoRow.holds Try.pinned (OpenSpec.upto fdSetsSpec)

/-- 'drumlinlaw20.FdShares', WHERE WHAT IT READS IS OF BULK AT MOST 1048576: true; the input reads as it did. -/
def fdSharesUptoRow : OpenClaim := { program := "ytbpklbicbeckdaa", sum := "13797b246786c6bba82bb2781413b5712ed6504104ab8b7c0af05e739e6df75c", func := "drumlin/drumlinlaw20.FdShares", spec := "fdShares", unfollowed := true, recurses := true, apart := false, narrowed := true }
def FdSharesUptoSaid : Prop := fdSharesUptoRow.holds Try.pinned (OpenSpec.upto fdSharesSpec)

end Rows
end Go.Proofs.Ytbpklbicbeckdaa
