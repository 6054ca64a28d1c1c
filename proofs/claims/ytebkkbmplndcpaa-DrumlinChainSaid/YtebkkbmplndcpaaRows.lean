/-
  No cell of these rows narrows 'for every input' (looked for: loops, veiled, ifaces, maps, wideKeys, modest, calm, conditions, laid).
  DERIVED. THE GIVEN ROWS OF THIS SEAT. 3 by the template 'for every input the law returns true; each argument reads behind the call as it read before'; 0 by the template 'total and deterministic' (their statements: YtebkkbmplndcpaaTotals.lean).
  GIVEN WITH THE SEED: the statements are not yours to turn. If you find one false, say at which input.
  Laid BY PROGRAM, IN A SANDBOX (cutbox-rows.mjs): the forced cells as the released guide's own fill.sh prints them over the translation a650a0e1d6293d84… (all of the seat's roots in one cut). By AI agents, Wed Nov 11 2026. No macro, syntax, notation, axiom, sorry.
-/
import Derived.Test.YtebkkbmplndcpaaChecked
import GoSem.Claim
import GoSem.ClaimJoined
import GoSem.ClaimMapViews
import Derived.JoinedTies
import Derived.KernelRfl
namespace Go.Proofs.Ytebkkbmplndcpaa
/- THE CELL 'sum', in the pinned program and in every row, IS THE sha256 OF THE DUMP (.gsa) THAT YtebkkbmplndcpaaProg.lean LOADS. Nothing in Lean hashes anything: it is a label: what it is worth is what the hold of that sum in a sandbox is worth. -/
noncomputable def Try.pinned : Pinned := { name := "ytebkkbmplndcpaa", sum := "a650a0e1d6293d848ea39919b861d91660912115142da09ef05ef08b86d54cc4", checked := Try.checked }
namespace Rows
def none {H : Type} : Left H := { results := [], args := [] }

/-- 'drumlinlaw22.ProcTree': WHATEVER THE INPUT: true; the input reads as it did. -/
def procTreeSpec : ChangeSpec := { name := "procTree", fn := fun _ => fun
  | [d1, d2] => { results := [.lit (.bool true)], args := [d1, d2] }
  | _ => none }
def procTreeRow : OpenClaim := { program := "ytebkkbmplndcpaa", sum := "a650a0e1d6293d848ea39919b861d91660912115142da09ef05ef08b86d54cc4", func := "drumlin/drumlinlaw22.ProcTree", spec := "procTree", unfollowed := true, recurses := true, apart := false }
def ProcTreeSaid : Prop := procTreeRow.holds Try.pinned (OpenSpec.ofChange procTreeSpec)

/-- ITS FALSE NEIGHBOUR: 'it returns false'. Refute it at one input. -/
def procTreeWrong : ChangeSpec := { name := "procTree", fn := fun _ => fun
  | [d1, d2] => { results := [.lit (.bool false)], args := [d1, d2] }
  | _ => none }
def ProcTreeWrongFalsely : Prop := procTreeRow.holds Try.pinned (OpenSpec.ofChange procTreeWrong)

/-- 'drumlinlaw22.ProcOrphans': WHATEVER THE INPUT: true; the input reads as it did. -/
def procOrphansSpec : ChangeSpec := { name := "procOrphans", fn := fun _ => fun
  | [d1, d2] => { results := [.lit (.bool true)], args := [d1, d2] }
  | _ => none }
def procOrphansRow : OpenClaim := { program := "ytebkkbmplndcpaa", sum := "a650a0e1d6293d848ea39919b861d91660912115142da09ef05ef08b86d54cc4", func := "drumlin/drumlinlaw22.ProcOrphans", spec := "procOrphans", unfollowed := true, recurses := true, apart := false }
def ProcOrphansSaid : Prop := procOrphansRow.holds Try.pinned (OpenSpec.ofChange procOrphansSpec)

/-- ITS FALSE NEIGHBOUR: 'it returns false'. Refute it at one input. -/
def procOrphansWrong : ChangeSpec := { name := "procOrphans", fn := fun _ => fun
  | [d1, d2] => { results := [.lit (.bool false)], args := [d1, d2] }
  | _ => none }
def ProcOrphansWrongFalsely : Prop := procOrphansRow.holds Try.pinned (OpenSpec.ofChange procOrphansWrong)

/-- 'drumlintop.DrumlinChain': WHATEVER THE INPUT: true; the input reads as it did. -/
def drumlinChainSpec : ChangeSpec := { name := "drumlinChain", fn := fun _ => fun
  | [d] => { results := [.lit (.bool true)], args := [d] }
  | _ => none }
def drumlinChainRow : OpenClaim := { program := "ytebkkbmplndcpaa", sum := "a650a0e1d6293d848ea39919b861d91660912115142da09ef05ef08b86d54cc4", func := "drumlin/drumlintop.DrumlinChain", spec := "drumlinChain", unfollowed := true, recurses := true, apart := false }
def DrumlinChainSaid : Prop := drumlinChainRow.holds Try.pinned (OpenSpec.ofChange drumlinChainSpec)

/-- ITS FALSE NEIGHBOUR: 'it returns false'. Refute it at one input. -/
def drumlinChainWrong : ChangeSpec := { name := "drumlinChain", fn := fun _ => fun
  | [d] => { results := [.lit (.bool false)], args := [d] }
  | _ => none }
def DrumlinChainWrongFalsely : Prop := drumlinChainRow.holds Try.pinned (OpenSpec.ofChange drumlinChainWrong)

/- THE SECOND FORM. 'bulk': how many values and letters a reading holds, each counted each time it is reached (what is shared counts as often as it is met; a slice's spare places count too). A statement '..UptoSaid' is the law's where the arguments, and the package variables that the reading takes, are together of bulk at most 1048576: NARROWER than '..Said'. Prove '..Said' where nothing that the law and all that it calls make is longer than what came in: it says more and counts as full. Else prove '..UptoSaid'. A law counts once. -/
mutual
def uptoBulk {H : Type} : DataW H → Nat
  | .lit (.string bytes) => bytes.length + 1
  | .lit _ => 1
  | .nil => 1
  | .ptr d => uptoBulk d + 1
  | .slice elems spare => uptoBulkAll elems + uptoBulkAll spare + 1
  | .agg parts => uptoBulkAll parts + 1
  | .iface _ d => uptoBulk d + 1
  | .map entries => uptoBulkEntries entries + 1
  | .held _ => 1
def uptoBulkAll {H : Type} : List (DataW H) → Nat
  | [] => 0
  | d :: r => uptoBulk d + uptoBulkAll r
def uptoBulkEntries {H : Type} : List (Lit × DataW H) → Nat
  | [] => 0
  | x :: r => uptoBulkEntry x + uptoBulkEntries r
def uptoBulkEntry {H : Type} : Lit × DataW H → Nat
  | (.string bytes, d) => bytes.length + uptoBulk d + 1
  | (_, d) => uptoBulk d + 1
 end
def uptoSmall : (H : Type) → List (DataW H) → Bool := fun _ ds => decide (uptoBulkAll ds ≤ 1048576)
def OpenSpec.upto (s : _root_.Go.ChangeSpec) : _root_.Go.OpenSpec := { _root_.Go.OpenSpec.ofChange s with cond := some uptoSmall }

/-- 'drumlinlaw22.ProcTree', WHERE WHAT IT READS IS OF BULK AT MOST 1048576: true; the input reads as it did. -/
def procTreeUptoRow : OpenClaim := { program := "ytebkkbmplndcpaa", sum := "a650a0e1d6293d848ea39919b861d91660912115142da09ef05ef08b86d54cc4", func := "drumlin/drumlinlaw22.ProcTree", spec := "procTree", unfollowed := true, recurses := true, apart := false, narrowed := true }
def ProcTreeUptoSaid : Prop := procTreeUptoRow.holds Try.pinned (OpenSpec.upto procTreeSpec)

/-- 'drumlinlaw22.ProcOrphans', WHERE WHAT IT READS IS OF BULK AT MOST 1048576: true; the input reads as it did. -/
def procOrphansUptoRow : OpenClaim := { program := "ytebkkbmplndcpaa", sum := "a650a0e1d6293d848ea39919b861d91660912115142da09ef05ef08b86d54cc4", func := "drumlin/drumlinlaw22.ProcOrphans", spec := "procOrphans", unfollowed := true, recurses := true, apart := false, narrowed := true }
def ProcOrphansUptoSaid : Prop := procOrphansUptoRow.holds Try.pinned (OpenSpec.upto procOrphansSpec)

/-- 'drumlintop.DrumlinChain', WHERE WHAT IT READS IS OF BULK AT MOST 1048576: true; the input reads as it did. -/
def drumlinChainUptoRow : OpenClaim := { program := "ytebkkbmplndcpaa", sum := "a650a0e1d6293d848ea39919b861d91660912115142da09ef05ef08b86d54cc4", func := "drumlin/drumlintop.DrumlinChain", spec := "drumlinChain", unfollowed := true, recurses := true, apart := false, narrowed := true }
def DrumlinChainUptoSaid : Prop := drumlinChainUptoRow.holds Try.pinned (OpenSpec.upto drumlinChainSpec)

end Rows
end Go.Proofs.Ytebkkbmplndcpaa
