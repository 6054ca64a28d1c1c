/-
  No cell of these rows narrows 'for every input' (looked for: loops, veiled, ifaces, maps, wideKeys, modest, calm, conditions, laid).
  DERIVED. THE GIVEN ROWS OF THIS SEAT. 12 by the template 'for every input the law returns true; each argument reads behind the call as it read before'; 0 by the template 'total and deterministic' (their statements: YtedhfgadphjobaaTotals.lean).
  GIVEN WITH THE SEED: the statements are not yours to turn. If you find one false, say at which input.
  Laid BY PROGRAM, IN A SANDBOX (cutbox-rows.mjs): the forced cells as the released guide's own fill.sh prints them over the translation 38c1d3568d6a14d9… (all of the seat's roots in one cut). By AI agents, Wed Nov 11 2026. No macro, syntax, notation, axiom, sorry.
-/
import Derived.Test.YtedhfgadphjobaaChecked
import GoSem.Claim
import GoSem.ClaimJoined
import GoSem.ClaimMapViews
import Derived.JoinedTies
import Derived.KernelRfl
namespace Go.Proofs.Ytedhfgadphjobaa
/- THE CELL 'sum', in the pinned program and in every row, IS THE sha256 OF THE DUMP (.gsa) THAT YtedhfgadphjobaaProg.lean LOADS. Nothing in Lean hashes anything: it is a label: what it is worth is what the hold of that sum in a sandbox is worth. -/
noncomputable def Try.pinned : Pinned := { name := "ytedhfgadphjobaa", sum := "38c1d3568d6a14d982b85170c4fad35a9d26866e1c98fbf1fe99b1a9fdaa699a", checked := Try.checked }
namespace Rows
def none {H : Type} : Left H := { results := [], args := [] }

/-- 'drumlinlaw03.DiskPlays': WHATEVER THE INPUT: true; the input reads as it did. -/
def diskPlaysSpec : ChangeSpec := { name := "diskPlays", fn := fun _ => fun
  | [d1, d2] => { results := [.lit (.bool true)], args := [d1, d2] }
  | _ => none }
def diskPlaysRow : OpenClaim := { program := "ytedhfgadphjobaa", sum := "38c1d3568d6a14d982b85170c4fad35a9d26866e1c98fbf1fe99b1a9fdaa699a", func := "drumlin/drumlinlaw03.DiskPlays", spec := "diskPlays", unfollowed := true, recurses := true, apart := false }
def DiskPlaysSaid : Prop := diskPlaysRow.holds Try.pinned (OpenSpec.ofChange diskPlaysSpec)

/-- ITS FALSE NEIGHBOUR: 'it returns false'. Refute it at one input. -/
def diskPlaysWrong : ChangeSpec := { name := "diskPlays", fn := fun _ => fun
  | [d1, d2] => { results := [.lit (.bool false)], args := [d1, d2] }
  | _ => none }
def DiskPlaysWrongFalsely : Prop := diskPlaysRow.holds Try.pinned (OpenSpec.ofChange diskPlaysWrong)

/-- 'drumlinlaw03.DiskSizes': WHATEVER THE INPUT: true; the input reads as it did. -/
def diskSizesSpec : ChangeSpec := { name := "diskSizes", fn := fun _ => fun
  | [d] => { results := [.lit (.bool true)], args := [d] }
  | _ => none }
def diskSizesRow : OpenClaim := { program := "ytedhfgadphjobaa", sum := "38c1d3568d6a14d982b85170c4fad35a9d26866e1c98fbf1fe99b1a9fdaa699a", func := "drumlin/drumlinlaw03.DiskSizes", spec := "diskSizes", unfollowed := true, recurses := true, apart := false }
def DiskSizesSaid : Prop := diskSizesRow.holds Try.pinned (OpenSpec.ofChange diskSizesSpec)

/-- ITS FALSE NEIGHBOUR: 'it returns false'. Refute it at one input. -/
def diskSizesWrong : ChangeSpec := { name := "diskSizes", fn := fun _ => fun
  | [d] => { results := [.lit (.bool false)], args := [d] }
  | _ => none }
def DiskSizesWrongFalsely : Prop := diskSizesRow.holds Try.pinned (OpenSpec.ofChange diskSizesWrong)

/-- 'drumlinlaw03.DiskSafe': WHATEVER THE INPUT: true; the input reads as it did. -/
def diskSafeSpec : ChangeSpec := { name := "diskSafe", fn := fun _ => fun
  | [d1, d2, d3] => { results := [.lit (.bool true)], args := [d1, d2, d3] }
  | _ => none }
def diskSafeRow : OpenClaim := { program := "ytedhfgadphjobaa", sum := "38c1d3568d6a14d982b85170c4fad35a9d26866e1c98fbf1fe99b1a9fdaa699a", func := "drumlin/drumlinlaw03.DiskSafe", spec := "diskSafe", unfollowed := true, recurses := true, apart := false }
def DiskSafeSaid : Prop := diskSafeRow.holds Try.pinned (OpenSpec.ofChange diskSafeSpec)

/-- ITS FALSE NEIGHBOUR: 'it returns false'. Refute it at one input. -/
def diskSafeWrong : ChangeSpec := { name := "diskSafe", fn := fun _ => fun
  | [d1, d2, d3] => { results := [.lit (.bool false)], args := [d1, d2, d3] }
  | _ => none }
def DiskSafeWrongFalsely : Prop := diskSafeRow.holds Try.pinned (OpenSpec.ofChange diskSafeWrong)

/-- 'drumlinlaw03.DiskTwins': WHATEVER THE INPUT: true; the input reads as it did. -/
def diskTwinsSpec : ChangeSpec := { name := "diskTwins", fn := fun _ => fun
  | [d1, d2, d3] => { results := [.lit (.bool true)], args := [d1, d2, d3] }
  | _ => none }
def diskTwinsRow : OpenClaim := { program := "ytedhfgadphjobaa", sum := "38c1d3568d6a14d982b85170c4fad35a9d26866e1c98fbf1fe99b1a9fdaa699a", func := "drumlin/drumlinlaw03.DiskTwins", spec := "diskTwins", unfollowed := true, recurses := true, apart := false }
def DiskTwinsSaid : Prop := diskTwinsRow.holds Try.pinned (OpenSpec.ofChange diskTwinsSpec)

/-- ITS FALSE NEIGHBOUR: 'it returns false'. Refute it at one input. -/
def diskTwinsWrong : ChangeSpec := { name := "diskTwins", fn := fun _ => fun
  | [d1, d2, d3] => { results := [.lit (.bool false)], args := [d1, d2, d3] }
  | _ => none }
def DiskTwinsWrongFalsely : Prop := diskTwinsRow.holds Try.pinned (OpenSpec.ofChange diskTwinsWrong)

/-- 'drumlinlaw03.DiskArms': WHATEVER THE INPUT: true; the input reads as it did. -/
def diskArmsSpec : ChangeSpec := { name := "diskArms", fn := fun _ => fun
  | [d1, d2] => { results := [.lit (.bool true)], args := [d1, d2] }
  | _ => none }
def diskArmsRow : OpenClaim := { program := "ytedhfgadphjobaa", sum := "38c1d3568d6a14d982b85170c4fad35a9d26866e1c98fbf1fe99b1a9fdaa699a", func := "drumlin/drumlinlaw03.DiskArms", spec := "diskArms", unfollowed := true, recurses := true, apart := false }
def DiskArmsSaid : Prop := diskArmsRow.holds Try.pinned (OpenSpec.ofChange diskArmsSpec)

/-- ITS FALSE NEIGHBOUR: 'it returns false'. Refute it at one input. -/
def diskArmsWrong : ChangeSpec := { name := "diskArms", fn := fun _ => fun
  | [d1, d2] => { results := [.lit (.bool false)], args := [d1, d2] }
  | _ => none }
def DiskArmsWrongFalsely : Prop := diskArmsRow.holds Try.pinned (OpenSpec.ofChange diskArmsWrong)

/-- 'drumlintop.DrumlinPlaces': WHATEVER THE INPUT: true; the input reads as it did. -/
def drumlinPlacesSpec : ChangeSpec := { name := "drumlinPlaces", fn := fun _ => fun
  | [d1, d2, d3] => { results := [.lit (.bool true)], args := [d1, d2, d3] }
  | _ => none }
def drumlinPlacesRow : OpenClaim := { program := "ytedhfgadphjobaa", sum := "38c1d3568d6a14d982b85170c4fad35a9d26866e1c98fbf1fe99b1a9fdaa699a", func := "drumlin/drumlintop.DrumlinPlaces", spec := "drumlinPlaces", unfollowed := true, recurses := true, apart := false }
def DrumlinPlacesSaid : Prop := drumlinPlacesRow.holds Try.pinned (OpenSpec.ofChange drumlinPlacesSpec)

/-- ITS FALSE NEIGHBOUR: 'it returns false'. Refute it at one input. -/
def drumlinPlacesWrong : ChangeSpec := { name := "drumlinPlaces", fn := fun _ => fun
  | [d1, d2, d3] => { results := [.lit (.bool false)], args := [d1, d2, d3] }
  | _ => none }
def DrumlinPlacesWrongFalsely : Prop := drumlinPlacesRow.holds Try.pinned (OpenSpec.ofChange drumlinPlacesWrong)

/-- 'drumlinlaw06.DirentNames': WHATEVER THE INPUT: true; the input reads as it did. -/
def direntNamesSpec : ChangeSpec := { name := "direntNames", fn := fun _ => fun
  | [d] => { results := [.lit (.bool true)], args := [d] }
  | _ => none }
def direntNamesRow : OpenClaim := { program := "ytedhfgadphjobaa", sum := "38c1d3568d6a14d982b85170c4fad35a9d26866e1c98fbf1fe99b1a9fdaa699a", func := "drumlin/drumlinlaw06.DirentNames", spec := "direntNames", inPlace := ["internal/bytealg.IndexByteString", "internal/bytealg.IndexString"], unfollowed := true, recurses := true, named := ["internal/bytealg.MaxLen"], apart := false }
def DirentNamesSaid : Prop := direntNamesRow.holds Try.pinned (OpenSpec.ofChange direntNamesSpec)

/-- ITS FALSE NEIGHBOUR: 'it returns false'. Refute it at one input. -/
def direntNamesWrong : ChangeSpec := { name := "direntNames", fn := fun _ => fun
  | [d] => { results := [.lit (.bool false)], args := [d] }
  | _ => none }
def DirentNamesWrongFalsely : Prop := direntNamesRow.holds Try.pinned (OpenSpec.ofChange direntNamesWrong)

/-- 'drumlinlaw06.DirentFinds': WHATEVER THE INPUT: true; the input reads as it did. -/
def direntFindsSpec : ChangeSpec := { name := "direntFinds", fn := fun _ => fun
  | [d1, d2] => { results := [.lit (.bool true)], args := [d1, d2] }
  | _ => none }
def direntFindsRow : OpenClaim := { program := "ytedhfgadphjobaa", sum := "38c1d3568d6a14d982b85170c4fad35a9d26866e1c98fbf1fe99b1a9fdaa699a", func := "drumlin/drumlinlaw06.DirentFinds", spec := "direntFinds", inPlace := ["internal/bytealg.IndexByteString", "internal/bytealg.IndexString"], unfollowed := true, recurses := true, named := ["internal/bytealg.MaxLen"], apart := false }
def DirentFindsSaid : Prop := direntFindsRow.holds Try.pinned (OpenSpec.ofChange direntFindsSpec)

/-- ITS FALSE NEIGHBOUR: 'it returns false'. Refute it at one input. -/
def direntFindsWrong : ChangeSpec := { name := "direntFinds", fn := fun _ => fun
  | [d1, d2] => { results := [.lit (.bool false)], args := [d1, d2] }
  | _ => none }
def DirentFindsWrongFalsely : Prop := direntFindsRow.holds Try.pinned (OpenSpec.ofChange direntFindsWrong)

/-- 'drumlinlaw06.DirentWrites': WHATEVER THE INPUT: true; the input reads as it did. -/
def direntWritesSpec : ChangeSpec := { name := "direntWrites", fn := fun _ => fun
  | [d] => { results := [.lit (.bool true)], args := [d] }
  | _ => none }
def direntWritesRow : OpenClaim := { program := "ytedhfgadphjobaa", sum := "38c1d3568d6a14d982b85170c4fad35a9d26866e1c98fbf1fe99b1a9fdaa699a", func := "drumlin/drumlinlaw06.DirentWrites", spec := "direntWrites", inPlace := ["internal/bytealg.IndexByteString", "internal/bytealg.IndexString"], unfollowed := true, recurses := true, named := ["internal/bytealg.MaxLen"], apart := false }
def DirentWritesSaid : Prop := direntWritesRow.holds Try.pinned (OpenSpec.ofChange direntWritesSpec)

/-- ITS FALSE NEIGHBOUR: 'it returns false'. Refute it at one input. -/
def direntWritesWrong : ChangeSpec := { name := "direntWrites", fn := fun _ => fun
  | [d] => { results := [.lit (.bool false)], args := [d] }
  | _ => none }
def DirentWritesWrongFalsely : Prop := direntWritesRow.holds Try.pinned (OpenSpec.ofChange direntWritesWrong)

/-- 'drumlinlaw06.DirentReads': WHATEVER THE INPUT: true; the input reads as it did. -/
def direntReadsSpec : ChangeSpec := { name := "direntReads", fn := fun _ => fun
  | [d] => { results := [.lit (.bool true)], args := [d] }
  | _ => none }
def direntReadsRow : OpenClaim := { program := "ytedhfgadphjobaa", sum := "38c1d3568d6a14d982b85170c4fad35a9d26866e1c98fbf1fe99b1a9fdaa699a", func := "drumlin/drumlinlaw06.DirentReads", spec := "direntReads", inPlace := ["internal/bytealg.IndexByteString", "internal/bytealg.IndexString"], unfollowed := true, recurses := true, named := ["internal/bytealg.MaxLen"], apart := false }
def DirentReadsSaid : Prop := direntReadsRow.holds Try.pinned (OpenSpec.ofChange direntReadsSpec)

/-- ITS FALSE NEIGHBOUR: 'it returns false'. Refute it at one input. -/
def direntReadsWrong : ChangeSpec := { name := "direntReads", fn := fun _ => fun
  | [d] => { results := [.lit (.bool false)], args := [d] }
  | _ => none }
def DirentReadsWrongFalsely : Prop := direntReadsRow.holds Try.pinned (OpenSpec.ofChange direntReadsWrong)

/-- 'drumlinlaw06.DirentFills': WHATEVER THE INPUT: true; the input reads as it did. -/
def direntFillsSpec : ChangeSpec := { name := "direntFills", fn := fun _ => fun
  | [d] => { results := [.lit (.bool true)], args := [d] }
  | _ => none }
def direntFillsRow : OpenClaim := { program := "ytedhfgadphjobaa", sum := "38c1d3568d6a14d982b85170c4fad35a9d26866e1c98fbf1fe99b1a9fdaa699a", func := "drumlin/drumlinlaw06.DirentFills", spec := "direntFills", inPlace := ["internal/bytealg.IndexByteString", "internal/bytealg.IndexString"], unfollowed := true, recurses := true, named := ["internal/bytealg.MaxLen"], apart := false }
def DirentFillsSaid : Prop := direntFillsRow.holds Try.pinned (OpenSpec.ofChange direntFillsSpec)

/-- ITS FALSE NEIGHBOUR: 'it returns false'. Refute it at one input. -/
def direntFillsWrong : ChangeSpec := { name := "direntFills", fn := fun _ => fun
  | [d] => { results := [.lit (.bool false)], args := [d] }
  | _ => none }
def DirentFillsWrongFalsely : Prop := direntFillsRow.holds Try.pinned (OpenSpec.ofChange direntFillsWrong)

/-- 'drumlinlaw05.CodecPointers': WHATEVER THE INPUT: true; the input reads as it did. -/
def codecPointersSpec : ChangeSpec := { name := "codecPointers", fn := fun _ => fun
  | [d1, d2] => { results := [.lit (.bool true)], args := [d1, d2] }
  | _ => none }
def codecPointersRow : OpenClaim := { program := "ytedhfgadphjobaa", sum := "38c1d3568d6a14d982b85170c4fad35a9d26866e1c98fbf1fe99b1a9fdaa699a", func := "drumlin/drumlinlaw05.CodecPointers", spec := "codecPointers", unfollowed := true, recurses := true, apart := false }
def CodecPointersSaid : Prop := codecPointersRow.holds Try.pinned (OpenSpec.ofChange codecPointersSpec)

/-- ITS FALSE NEIGHBOUR: 'it returns false'. Refute it at one input. -/
def codecPointersWrong : ChangeSpec := { name := "codecPointers", fn := fun _ => fun
  | [d1, d2] => { results := [.lit (.bool false)], args := [d1, d2] }
  | _ => none }
def CodecPointersWrongFalsely : Prop := codecPointersRow.holds Try.pinned (OpenSpec.ofChange codecPointersWrong)

/- THE SECOND FORM. 'bulk': how many values and letters a reading holds, each counted each time it is reached (what is shared counts as often as it is met; a slice's spare places count too). A statement '..UptoSaid' is the law's where the arguments, and the package variables that the reading takes, are together of bulk at most 1048576: NARROWER than '..Said'. Prove '..Said' where nothing that the law and all that it calls make is longer than what came in: it says more and counts as full. Else prove '..UptoSaid'. A law counts once. -/
mutual
def uptoBulk {H : Type} : DataW H → Nat
  | .lit (.string bytes) => bytes.length + 1
  | .lit _ => 1
  | .nil => 1
  | .ptr d => uptoBulk d + 1
  | .slice elems spare => uptoBulkAll elems + uptoBulkAll spare + 1
  | .agg parts => uptoBulkAll parts + 1
  | .iface _ d => uptoBulk d + 1
  | .map entries => uptoBulkEntries entries + 1
  | .held _ => 1
def uptoBulkAll {H : Type} : List (DataW H) → Nat
  | [] => 0
  | d :: r => uptoBulk d + uptoBulkAll r
def uptoBulkEntries {H : Type} : List (Lit × DataW H) → Nat
  | [] => 0
  | x :: r => uptoBulkEntry x + uptoBulkEntries r
def uptoBulkEntry {H : Type} : Lit × DataW H → Nat
  | (.string bytes, d) => bytes.length + uptoBulk d + 1
  | (_, d) => uptoBulk d + 1
 end
def uptoSmall : (H : Type) → List (DataW H) → Bool := fun _ ds => decide (uptoBulkAll ds ≤ 1048576)
def OpenSpec.upto (s : _root_.Go.ChangeSpec) : _root_.Go.OpenSpec := { _root_.Go.OpenSpec.ofChange s with cond := some uptoSmall }

/-- 'drumlinlaw03.DiskPlays', WHERE WHAT IT READS IS OF BULK AT MOST 1048576: true; the input reads as it did. -/
def diskPlaysUptoRow : OpenClaim := { program := "ytedhfgadphjobaa", sum := "38c1d3568d6a14d982b85170c4fad35a9d26866e1c98fbf1fe99b1a9fdaa699a", func := "drumlin/drumlinlaw03.DiskPlays", spec := "diskPlays", unfollowed := true, recurses := true, apart := false, narrowed := true }
def DiskPlaysUptoSaid : Prop := diskPlaysUptoRow.holds Try.pinned (OpenSpec.upto diskPlaysSpec)

/-- 'drumlinlaw03.DiskSizes', WHERE WHAT IT READS IS OF BULK AT MOST 1048576: true; the input reads as it did. -/
def diskSizesUptoRow : OpenClaim := { program := "ytedhfgadphjobaa", sum := "38c1d3568d6a14d982b85170c4fad35a9d26866e1c98fbf1fe99b1a9fdaa699a", func := "drumlin/drumlinlaw03.DiskSizes", spec := "diskSizes", unfollowed := true, recurses := true, apart := false, narrowed := true }
def DiskSizesUptoSaid : Prop := diskSizesUptoRow.holds Try.pinned (OpenSpec.upto diskSizesSpec)

/-- 'drumlinlaw03.DiskSafe', WHERE WHAT IT READS IS OF BULK AT MOST 1048576: true; the input reads as it did. -/
def diskSafeUptoRow : OpenClaim := { program := "ytedhfgadphjobaa", sum := "38c1d3568d6a14d982b85170c4fad35a9d26866e1c98fbf1fe99b1a9fdaa699a", func := "drumlin/drumlinlaw03.DiskSafe", spec := "diskSafe", unfollowed := true, recurses := true, apart := false, narrowed := true }
def DiskSafeUptoSaid : Prop := diskSafeUptoRow.holds Try.pinned (OpenSpec.upto diskSafeSpec)

/-- 'drumlinlaw03.DiskTwins', WHERE WHAT IT READS IS OF BULK AT MOST 1048576: true; the input reads as it did. -/
def diskTwinsUptoRow : OpenClaim := { program := "ytedhfgadphjobaa", sum := "38c1d3568d6a14d982b85170c4fad35a9d26866e1c98fbf1fe99b1a9fdaa699a", func := "drumlin/drumlinlaw03.DiskTwins", spec := "diskTwins", unfollowed := true, recurses := true, apart := false, narrowed := true }
def DiskTwinsUptoSaid : Prop := diskTwinsUptoRow.holds Try.pinned (OpenSpec.upto diskTwinsSpec)

/-- 'drumlinlaw03.DiskArms', WHERE WHAT IT READS IS OF BULK AT MOST 1048576: true; the input reads as it did. -/
def diskArmsUptoRow : OpenClaim := { program := "ytedhfgadphjobaa", sum := "38c1d3568d6a14d982b85170c4fad35a9d26866e1c98fbf1fe99b1a9fdaa699a", func := "drumlin/drumlinlaw03.DiskArms", spec := "diskArms", unfollowed := true, recurses := true, apart := false, narrowed := true }
def DiskArmsUptoSaid : Prop := diskArmsUptoRow.holds Try.pinned (OpenSpec.upto diskArmsSpec)

/-- 'drumlintop.DrumlinPlaces', WHERE WHAT IT READS IS OF BULK AT MOST 1048576: true; the input reads as it did. -/
def drumlinPlacesUptoRow : OpenClaim := { program := "ytedhfgadphjobaa", sum := "38c1d3568d6a14d982b85170c4fad35a9d26866e1c98fbf1fe99b1a9fdaa699a", func := "drumlin/drumlintop.DrumlinPlaces", spec := "drumlinPlaces", unfollowed := true, recurses := true, apart := false, narrowed := true }
def DrumlinPlacesUptoSaid : Prop := drumlinPlacesUptoRow.holds Try.pinned (OpenSpec.upto drumlinPlacesSpec)

/-- 'drumlinlaw06.DirentNames', WHERE WHAT IT READS IS OF BULK AT MOST 1048576: true; the input reads as it did. -/
def direntNamesUptoRow : OpenClaim := { program := "ytedhfgadphjobaa", sum := "38c1d3568d6a14d982b85170c4fad35a9d26866e1c98fbf1fe99b1a9fdaa699a", func := "drumlin/drumlinlaw06.DirentNames", spec := "direntNames", inPlace := ["internal/bytealg.IndexByteString", "internal/bytealg.IndexString"], unfollowed := true, recurses := true, named := ["internal/bytealg.MaxLen"], apart := false, narrowed := true }
def DirentNamesUptoSaid : Prop := direntNamesUptoRow.holds Try.pinned (OpenSpec.upto direntNamesSpec)

/-- 'drumlinlaw06.DirentFinds', WHERE WHAT IT READS IS OF BULK AT MOST 1048576: true; the input reads as it did. -/
def direntFindsUptoRow : OpenClaim := { program := "ytedhfgadphjobaa", sum := "38c1d3568d6a14d982b85170c4fad35a9d26866e1c98fbf1fe99b1a9fdaa699a", func := "drumlin/drumlinlaw06.DirentFinds", spec := "direntFinds", inPlace := ["internal/bytealg.IndexByteString", "internal/bytealg.IndexString"], unfollowed := true, recurses := true, named := ["internal/bytealg.MaxLen"], apart := false, narrowed := true }
def DirentFindsUptoSaid : Prop := direntFindsUptoRow.holds Try.pinned (OpenSpec.upto direntFindsSpec)

/-- 'drumlinlaw06.DirentWrites', WHERE WHAT IT READS IS OF BULK AT MOST 1048576: true; the input reads as it did. -/
def direntWritesUptoRow : OpenClaim := { program := "ytedhfgadphjobaa", sum := "38c1d3568d6a14d982b85170c4fad35a9d26866e1c98fbf1fe99b1a9fdaa699a", func := "drumlin/drumlinlaw06.DirentWrites", spec := "direntWrites", inPlace := ["internal/bytealg.IndexByteString", "internal/bytealg.IndexString"], unfollowed := true, recurses := true, named := ["internal/bytealg.MaxLen"], apart := false, narrowed := true }
def DirentWritesUptoSaid : Prop := direntWritesUptoRow.holds Try.pinned (OpenSpec.upto direntWritesSpec)

/-- 'drumlinlaw06.DirentReads', WHERE WHAT IT READS IS OF BULK AT MOST 1048576: true; the input reads as it did. -/
def direntReadsUptoRow : OpenClaim := { program := "ytedhfgadphjobaa", sum := "38c1d3568d6a14d982b85170c4fad35a9d26866e1c98fbf1fe99b1a9fdaa699a", func := "drumlin/drumlinlaw06.DirentReads", spec := "direntReads", inPlace := ["internal/bytealg.IndexByteString", "internal/bytealg.IndexString"], unfollowed := true, recurses := true, named := ["internal/bytealg.MaxLen"], apart := false, narrowed := true }
def DirentReadsUptoSaid : Prop := direntReadsUptoRow.holds Try.pinned (OpenSpec.upto direntReadsSpec)

/-- 'drumlinlaw06.DirentFills', WHERE WHAT IT READS IS OF BULK AT MOST 1048576: true; the input reads as it did. -/
def direntFillsUptoRow : OpenClaim := { program := "ytedhfgadphjobaa", sum := "38c1d3568d6a14d982b85170c4fad35a9d26866e1c98fbf1fe99b1a9fdaa699a", func := "drumlin/drumlinlaw06.DirentFills", spec := "direntFills", inPlace := ["internal/bytealg.IndexByteString", "internal/bytealg.IndexString"], unfollowed := true, recurses := true, named := ["internal/bytealg.MaxLen"], apart := false, narrowed := true }
def DirentFillsUptoSaid : Prop := direntFillsUptoRow.holds Try.pinned (OpenSpec.upto direntFillsSpec)

/-- 'drumlinlaw05.CodecPointers', WHERE WHAT IT READS IS OF BULK AT MOST 1048576: true; the input reads as it did. -/
def codecPointersUptoRow : OpenClaim := { program := "ytedhfgadphjobaa", sum := "38c1d3568d6a14d982b85170c4fad35a9d26866e1c98fbf1fe99b1a9fdaa699a", func := "drumlin/drumlinlaw05.CodecPointers", spec := "codecPointers", unfollowed := true, recurses := true, apart := false, narrowed := true }
def CodecPointersUptoSaid : Prop := codecPointersUptoRow.holds Try.pinned (OpenSpec.upto codecPointersSpec)

end Rows
end Go.Proofs.Ytedhfgadphjobaa
