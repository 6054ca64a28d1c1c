/-
  No cell of these rows narrows 'for every input' (looked for: loops, veiled, ifaces, maps, wideKeys, modest, calm, conditions, laid).
  DERIVED. THE GIVEN ROWS OF THIS SEAT. 12 by the template 'for every input the law returns true; each argument reads behind the call as it read before'; 0 by the template 'total and deterministic' (their statements: YtpmfkamagdifgaaTotals.lean).
  GIVEN WITH THE SEED: the statements are not yours to turn. If you find one false, say at which input.
  Laid BY PROGRAM, IN A SANDBOX (cutbox-rows.mjs): the forced cells as the released guide's own fill.sh prints them over the translation ce4a27da3df59c25… (all of the seat's roots in one cut). By AI agents, Wed Nov 11 2026. No macro, syntax, notation, axiom, sorry.
-/
import Derived.Test.YtpmfkamagdifgaaChecked
import GoSem.Claim
import GoSem.ClaimJoined
import GoSem.ClaimMapViews
import Derived.JoinedTies
import Derived.KernelRfl
namespace Go.Proofs.Ytpmfkamagdifgaa
/- THE CELL 'sum', in the pinned program and in every row, IS THE sha256 OF THE DUMP (.gsa) THAT YtpmfkamagdifgaaProg.lean LOADS. Nothing in Lean hashes anything: it is a label: what it is worth is what the hold of that sum in a sandbox is worth. -/
noncomputable def Try.pinned : Pinned := { name := "ytpmfkamagdifgaa", sum := "ce4a27da3df59c25ecb399c87317e3f708998c038ea1920e97a3500396f009cd", checked := Try.checked }
namespace Rows
def none {H : Type} : Left H := { results := [], args := [] }

/-- 'drumlinlaw05.CodecSlots': WHATEVER THE INPUT: true; the input reads as it did. -/
def codecSlotsSpec : ChangeSpec := { name := "codecSlots", fn := fun _ => fun
  | [d1, d2] => { results := [.lit (.bool true)], args := [d1, d2] }
  | _ => none }
def codecSlotsRow : OpenClaim := { program := "ytpmfkamagdifgaa", sum := "ce4a27da3df59c25ecb399c87317e3f708998c038ea1920e97a3500396f009cd", func := "drumlin/drumlinlaw05.CodecSlots", spec := "codecSlots", unfollowed := true, recurses := true, apart := false }
def CodecSlotsSaid : Prop := codecSlotsRow.holds Try.pinned (OpenSpec.ofChange codecSlotsSpec)

/-- ITS FALSE NEIGHBOUR: 'it returns false'. Refute it at one input. -/
def codecSlotsWrong : ChangeSpec := { name := "codecSlots", fn := fun _ => fun
  | [d1, d2] => { results := [.lit (.bool false)], args := [d1, d2] }
  | _ => none }
def CodecSlotsWrongFalsely : Prop := codecSlotsRow.holds Try.pinned (OpenSpec.ofChange codecSlotsWrong)

/-- 'drumlinlaw05.CodecUses': WHATEVER THE INPUT: true; the input reads as it did. -/
def codecUsesSpec : ChangeSpec := { name := "codecUses", fn := fun _ => fun
  | [d1, d2] => { results := [.lit (.bool true)], args := [d1, d2] }
  | _ => none }
def codecUsesRow : OpenClaim := { program := "ytpmfkamagdifgaa", sum := "ce4a27da3df59c25ecb399c87317e3f708998c038ea1920e97a3500396f009cd", func := "drumlin/drumlinlaw05.CodecUses", spec := "codecUses", unfollowed := true, recurses := true, apart := false }
def CodecUsesSaid : Prop := codecUsesRow.holds Try.pinned (OpenSpec.ofChange codecUsesSpec)

/-- ITS FALSE NEIGHBOUR: 'it returns false'. Refute it at one input. -/
def codecUsesWrong : ChangeSpec := { name := "codecUses", fn := fun _ => fun
  | [d1, d2] => { results := [.lit (.bool false)], args := [d1, d2] }
  | _ => none }
def CodecUsesWrongFalsely : Prop := codecUsesRow.holds Try.pinned (OpenSpec.ofChange codecUsesWrong)

/-- 'drumlinlaw05.CodecRecords': WHATEVER THE INPUT: true; the input reads as it did. -/
def codecRecordsSpec : ChangeSpec := { name := "codecRecords", fn := fun _ => fun
  | [d1, d2] => { results := [.lit (.bool true)], args := [d1, d2] }
  | _ => none }
def codecRecordsRow : OpenClaim := { program := "ytpmfkamagdifgaa", sum := "ce4a27da3df59c25ecb399c87317e3f708998c038ea1920e97a3500396f009cd", func := "drumlin/drumlinlaw05.CodecRecords", spec := "codecRecords", unfollowed := true, recurses := true, apart := false }
def CodecRecordsSaid : Prop := codecRecordsRow.holds Try.pinned (OpenSpec.ofChange codecRecordsSpec)

/-- ITS FALSE NEIGHBOUR: 'it returns false'. Refute it at one input. -/
def codecRecordsWrong : ChangeSpec := { name := "codecRecords", fn := fun _ => fun
  | [d1, d2] => { results := [.lit (.bool false)], args := [d1, d2] }
  | _ => none }
def CodecRecordsWrongFalsely : Prop := codecRecordsRow.holds Try.pinned (OpenSpec.ofChange codecRecordsWrong)

/-- 'drumlinlaw05.CodecHeaders': WHATEVER THE INPUT: true; the input reads as it did. -/
def codecHeadersSpec : ChangeSpec := { name := "codecHeaders", fn := fun _ => fun
  | [d1, d2] => { results := [.lit (.bool true)], args := [d1, d2] }
  | _ => none }
def codecHeadersRow : OpenClaim := { program := "ytpmfkamagdifgaa", sum := "ce4a27da3df59c25ecb399c87317e3f708998c038ea1920e97a3500396f009cd", func := "drumlin/drumlinlaw05.CodecHeaders", spec := "codecHeaders", unfollowed := true, recurses := true, apart := false }
def CodecHeadersSaid : Prop := codecHeadersRow.holds Try.pinned (OpenSpec.ofChange codecHeadersSpec)

/-- ITS FALSE NEIGHBOUR: 'it returns false'. Refute it at one input. -/
def codecHeadersWrong : ChangeSpec := { name := "codecHeaders", fn := fun _ => fun
  | [d1, d2] => { results := [.lit (.bool false)], args := [d1, d2] }
  | _ => none }
def CodecHeadersWrongFalsely : Prop := codecHeadersRow.holds Try.pinned (OpenSpec.ofChange codecHeadersWrong)

/-- 'drumlinlaw05.CodecInodes': WHATEVER THE INPUT: true; the input reads as it did. -/
def codecInodesSpec : ChangeSpec := { name := "codecInodes", fn := fun _ => fun
  | [d1, d2] => { results := [.lit (.bool true)], args := [d1, d2] }
  | _ => none }
def codecInodesRow : OpenClaim := { program := "ytpmfkamagdifgaa", sum := "ce4a27da3df59c25ecb399c87317e3f708998c038ea1920e97a3500396f009cd", func := "drumlin/drumlinlaw05.CodecInodes", spec := "codecInodes", unfollowed := true, recurses := true, apart := false }
def CodecInodesSaid : Prop := codecInodesRow.holds Try.pinned (OpenSpec.ofChange codecInodesSpec)

/-- ITS FALSE NEIGHBOUR: 'it returns false'. Refute it at one input. -/
def codecInodesWrong : ChangeSpec := { name := "codecInodes", fn := fun _ => fun
  | [d1, d2] => { results := [.lit (.bool false)], args := [d1, d2] }
  | _ => none }
def CodecInodesWrongFalsely : Prop := codecInodesRow.holds Try.pinned (OpenSpec.ofChange codecInodesWrong)

/-- 'drumlinlaw10.ImapGives': WHATEVER THE INPUT: true; the input reads as it did. -/
def imapGivesSpec : ChangeSpec := { name := "imapGives", fn := fun _ => fun
  | [d1, d2] => { results := [.lit (.bool true)], args := [d1, d2] }
  | _ => none }
def imapGivesRow : OpenClaim := { program := "ytpmfkamagdifgaa", sum := "ce4a27da3df59c25ecb399c87317e3f708998c038ea1920e97a3500396f009cd", func := "drumlin/drumlinlaw10.ImapGives", spec := "imapGives", unfollowed := true, recurses := true, apart := false }
def ImapGivesSaid : Prop := imapGivesRow.holds Try.pinned (OpenSpec.ofChange imapGivesSpec)

/-- ITS FALSE NEIGHBOUR: 'it returns false'. Refute it at one input. -/
def imapGivesWrong : ChangeSpec := { name := "imapGives", fn := fun _ => fun
  | [d1, d2] => { results := [.lit (.bool false)], args := [d1, d2] }
  | _ => none }
def ImapGivesWrongFalsely : Prop := imapGivesRow.holds Try.pinned (OpenSpec.ofChange imapGivesWrong)

/-- 'drumlinlaw10.ImapLoads': WHATEVER THE INPUT: true; the input reads as it did. -/
def imapLoadsSpec : ChangeSpec := { name := "imapLoads", fn := fun _ => fun
  | [d1, d2] => { results := [.lit (.bool true)], args := [d1, d2] }
  | _ => none }
def imapLoadsRow : OpenClaim := { program := "ytpmfkamagdifgaa", sum := "ce4a27da3df59c25ecb399c87317e3f708998c038ea1920e97a3500396f009cd", func := "drumlin/drumlinlaw10.ImapLoads", spec := "imapLoads", unfollowed := true, recurses := true, apart := false }
def ImapLoadsSaid : Prop := imapLoadsRow.holds Try.pinned (OpenSpec.ofChange imapLoadsSpec)

/-- ITS FALSE NEIGHBOUR: 'it returns false'. Refute it at one input. -/
def imapLoadsWrong : ChangeSpec := { name := "imapLoads", fn := fun _ => fun
  | [d1, d2] => { results := [.lit (.bool false)], args := [d1, d2] }
  | _ => none }
def ImapLoadsWrongFalsely : Prop := imapLoadsRow.holds Try.pinned (OpenSpec.ofChange imapLoadsWrong)

/-- 'drumlintop.DrumlinTables': WHATEVER THE INPUT: true; the input reads as it did. -/
def drumlinTablesSpec : ChangeSpec := { name := "drumlinTables", fn := fun _ => fun
  | [d1, d2] => { results := [.lit (.bool true)], args := [d1, d2] }
  | _ => none }
def drumlinTablesRow : OpenClaim := { program := "ytpmfkamagdifgaa", sum := "ce4a27da3df59c25ecb399c87317e3f708998c038ea1920e97a3500396f009cd", func := "drumlin/drumlintop.DrumlinTables", spec := "drumlinTables", unfollowed := true, recurses := true, apart := false }
def DrumlinTablesSaid : Prop := drumlinTablesRow.holds Try.pinned (OpenSpec.ofChange drumlinTablesSpec)

/-- ITS FALSE NEIGHBOUR: 'it returns false'. Refute it at one input. -/
def drumlinTablesWrong : ChangeSpec := { name := "drumlinTables", fn := fun _ => fun
  | [d1, d2] => { results := [.lit (.bool false)], args := [d1, d2] }
  | _ => none }
def DrumlinTablesWrongFalsely : Prop := drumlinTablesRow.holds Try.pinned (OpenSpec.ofChange drumlinTablesWrong)

/-- 'drumlinlaw06.DirentNames': WHATEVER THE INPUT: true; the input reads as it did. -/
def direntNamesSpec : ChangeSpec := { name := "direntNames", fn := fun _ => fun
  | [d] => { results := [.lit (.bool true)], args := [d] }
  | _ => none }
def direntNamesRow : OpenClaim := { program := "ytpmfkamagdifgaa", sum := "ce4a27da3df59c25ecb399c87317e3f708998c038ea1920e97a3500396f009cd", func := "drumlin/drumlinlaw06.DirentNames", spec := "direntNames", inPlace := ["internal/bytealg.IndexByteString", "internal/bytealg.IndexString"], unfollowed := true, recurses := true, named := ["internal/bytealg.MaxLen"], apart := false }
def DirentNamesSaid : Prop := direntNamesRow.holds Try.pinned (OpenSpec.ofChange direntNamesSpec)

/-- ITS FALSE NEIGHBOUR: 'it returns false'. Refute it at one input. -/
def direntNamesWrong : ChangeSpec := { name := "direntNames", fn := fun _ => fun
  | [d] => { results := [.lit (.bool false)], args := [d] }
  | _ => none }
def DirentNamesWrongFalsely : Prop := direntNamesRow.holds Try.pinned (OpenSpec.ofChange direntNamesWrong)

/-- 'drumlinlaw06.DirentWrites': WHATEVER THE INPUT: true; the input reads as it did. -/
def direntWritesSpec : ChangeSpec := { name := "direntWrites", fn := fun _ => fun
  | [d] => { results := [.lit (.bool true)], args := [d] }
  | _ => none }
def direntWritesRow : OpenClaim := { program := "ytpmfkamagdifgaa", sum := "ce4a27da3df59c25ecb399c87317e3f708998c038ea1920e97a3500396f009cd", func := "drumlin/drumlinlaw06.DirentWrites", spec := "direntWrites", inPlace := ["internal/bytealg.IndexByteString", "internal/bytealg.IndexString"], unfollowed := true, recurses := true, named := ["internal/bytealg.MaxLen"], apart := false }
def DirentWritesSaid : Prop := direntWritesRow.holds Try.pinned (OpenSpec.ofChange direntWritesSpec)

/-- ITS FALSE NEIGHBOUR: 'it returns false'. Refute it at one input. -/
def direntWritesWrong : ChangeSpec := { name := "direntWrites", fn := fun _ => fun
  | [d] => { results := [.lit (.bool false)], args := [d] }
  | _ => none }
def DirentWritesWrongFalsely : Prop := direntWritesRow.holds Try.pinned (OpenSpec.ofChange direntWritesWrong)

/-- 'drumlinlaw11.SlogPlans': WHATEVER THE INPUT: true; the input reads as it did. -/
def slogPlansSpec : ChangeSpec := { name := "slogPlans", fn := fun _ => fun
  | [d1, d2, d3] => { results := [.lit (.bool true)], args := [d1, d2, d3] }
  | _ => none }
def slogPlansRow : OpenClaim := { program := "ytpmfkamagdifgaa", sum := "ce4a27da3df59c25ecb399c87317e3f708998c038ea1920e97a3500396f009cd", func := "drumlin/drumlinlaw11.SlogPlans", spec := "slogPlans", unfollowed := true, recurses := true, apart := false }
def SlogPlansSaid : Prop := slogPlansRow.holds Try.pinned (OpenSpec.ofChange slogPlansSpec)

/-- ITS FALSE NEIGHBOUR: 'it returns false'. Refute it at one input. -/
def slogPlansWrong : ChangeSpec := { name := "slogPlans", fn := fun _ => fun
  | [d1, d2, d3] => { results := [.lit (.bool false)], args := [d1, d2, d3] }
  | _ => none }
def SlogPlansWrongFalsely : Prop := slogPlansRow.holds Try.pinned (OpenSpec.ofChange slogPlansWrong)

/-- 'drumlinlaw03.DiskPlays': WHATEVER THE INPUT: true; the input reads as it did. -/
def diskPlaysSpec : ChangeSpec := { name := "diskPlays", fn := fun _ => fun
  | [d1, d2] => { results := [.lit (.bool true)], args := [d1, d2] }
  | _ => none }
def diskPlaysRow : OpenClaim := { program := "ytpmfkamagdifgaa", sum := "ce4a27da3df59c25ecb399c87317e3f708998c038ea1920e97a3500396f009cd", func := "drumlin/drumlinlaw03.DiskPlays", spec := "diskPlays", unfollowed := true, recurses := true, apart := false }
def DiskPlaysSaid : Prop := diskPlaysRow.holds Try.pinned (OpenSpec.ofChange diskPlaysSpec)

/-- ITS FALSE NEIGHBOUR: 'it returns false'. Refute it at one input. -/
def diskPlaysWrong : ChangeSpec := { name := "diskPlays", fn := fun _ => fun
  | [d1, d2] => { results := [.lit (.bool false)], args := [d1, d2] }
  | _ => none }
def DiskPlaysWrongFalsely : Prop := diskPlaysRow.holds Try.pinned (OpenSpec.ofChange diskPlaysWrong)

/- THE SECOND FORM. 'bulk': how many values and letters a reading holds, each counted each time it is reached (what is shared counts as often as it is met; a slice's spare places count too). A statement '..UptoSaid' is the law's where the arguments, and the package variables that the reading takes, are together of bulk at most 1048576: NARROWER than '..Said'. Prove '..Said' where nothing that the law and all that it calls make is longer than what came in: it says more and counts as full. Else prove '..UptoSaid'. A law counts once. -/
mutual
def uptoBulk {H : Type} : DataW H → Nat
  | .lit (.string bytes) => bytes.length + 1
  | .lit _ => 1
  | .nil => 1
  | .ptr d => uptoBulk d + 1
  | .slice elems spare => uptoBulkAll elems + uptoBulkAll spare + 1
  | .agg parts => uptoBulkAll parts + 1
  | .iface _ d => uptoBulk d + 1
  | .map entries => uptoBulkEntries entries + 1
  | .held _ => 1
def uptoBulkAll {H : Type} : List (DataW H) → Nat
  | [] => 0
  | d :: r => uptoBulk d + uptoBulkAll r
def uptoBulkEntries {H : Type} : List (Lit × DataW H) → Nat
  | [] => 0
  | x :: r => uptoBulkEntry x + uptoBulkEntries r
def uptoBulkEntry {H : Type} : Lit × DataW H → Nat
  | (.string bytes, d) => bytes.length + uptoBulk d + 1
  | (_, d) => uptoBulk d + 1
 end
def uptoSmall : (H : Type) → List (DataW H) → Bool := fun _ ds => decide (uptoBulkAll ds ≤ 1048576)
def OpenSpec.upto (s : _root_.Go.ChangeSpec) : _root_.Go.OpenSpec := { _root_.Go.OpenSpec.ofChange s with cond := some uptoSmall }

/-- 'drumlinlaw05.CodecSlots', WHERE WHAT IT READS IS OF BULK AT MOST 1048576: true; the input reads as it did. -/
def codecSlotsUptoRow : OpenClaim := { program := "ytpmfkamagdifgaa", sum := "ce4a27da3df59c25ecb399c87317e3f708998c038ea1920e97a3500396f009cd", func := "drumlin/drumlinlaw05.CodecSlots", spec := "codecSlots", unfollowed := true, recurses := true, apart := false, narrowed := true }
def CodecSlotsUptoSaid : Prop := codecSlotsUptoRow.holds Try.pinned (OpenSpec.upto codecSlotsSpec)

/-- 'drumlinlaw05.CodecUses', WHERE WHAT IT READS IS OF BULK AT MOST 1048576: true; the input reads as it did. -/
def codecUsesUptoRow : OpenClaim := { program := "ytpmfkamagdifgaa", sum := "ce4a27da3df59c25ecb399c87317e3f708998c038ea1920e97a3500396f009cd", func := "drumlin/drumlinlaw05.CodecUses", spec := "codecUses", unfollowed := true, recurses := true, apart := false, narrowed := true }
def CodecUsesUptoSaid : Prop := codecUsesUptoRow.holds Try.pinned (OpenSpec.upto codecUsesSpec)

/-- 'drumlinlaw05.CodecRecords', WHERE WHAT IT READS IS OF BULK AT MOST 1048576: true; the input reads as it did. -/
def codecRecordsUptoRow : OpenClaim := { program := "ytpmfkamagdifgaa", sum := "ce4a27da3df59c25ecb399c87317e3f708998c038ea1920e97a3500396f009cd", func := "drumlin/drumlinlaw05.CodecRecords", spec := "codecRecords", unfollowed := true, recurses := true, apart := false, narrowed := true }
def CodecRecordsUptoSaid : Prop := codecRecordsUptoRow.holds Try.pinned (OpenSpec.upto codecRecordsSpec)

/-- 'drumlinlaw05.CodecHeaders', WHERE WHAT IT READS IS OF BULK AT MOST 1048576: true; the input reads as it did. -/
def codecHeadersUptoRow : OpenClaim := { program := "ytpmfkamagdifgaa", sum := "ce4a27da3df59c25ecb399c87317e3f708998c038ea1920e97a3500396f009cd", func := "drumlin/drumlinlaw05.CodecHeaders", spec := "codecHeaders", unfollowed := true, recurses := true, apart := false, narrowed := true }
def CodecHeadersUptoSaid : Prop := codecHeadersUptoRow.holds Try.pinned (OpenSpec.upto codecHeadersSpec)

/-- 'drumlinlaw05.CodecInodes', WHERE WHAT IT READS IS OF BULK AT MOST 1048576: true; the input reads as it did. -/
def codecInodesUptoRow : OpenClaim := { program := "ytpmfkamagdifgaa", sum := "ce4a27da3df59c25ecb399c87317e3f708998c038ea1920e97a3500396f009cd", func := "drumlin/drumlinlaw05.CodecInodes", spec := "codecInodes", unfollowed := true, recurses := true, apart := false, narrowed := true }
def CodecInodesUptoSaid : Prop := codecInodesUptoRow.holds Try.pinned (OpenSpec.upto codecInodesSpec)

/-- 'drumlinlaw10.ImapGives', WHERE WHAT IT READS IS OF BULK AT MOST 1048576: true; the input reads as it did. -/
def imapGivesUptoRow : OpenClaim := { program := "ytpmfkamagdifgaa", sum := "ce4a27da3df59c25ecb399c87317e3f708998c038ea1920e97a3500396f009cd", func := "drumlin/drumlinlaw10.ImapGives", spec := "imapGives", unfollowed := true, recurses := true, apart := false, narrowed := true }
def ImapGivesUptoSaid : Prop := imapGivesUptoRow.holds Try.pinned (OpenSpec.upto imapGivesSpec)

/-- 'drumlinlaw10.ImapLoads', WHERE WHAT IT READS IS OF BULK AT MOST 1048576: true; the input reads as it did. -/
def imapLoadsUptoRow : OpenClaim := { program := "ytpmfkamagdifgaa", sum := "ce4a27da3df59c25ecb399c87317e3f708998c038ea1920e97a3500396f009cd", func := "drumlin/drumlinlaw10.ImapLoads", spec := "imapLoads", unfollowed := true, recurses := true, apart := false, narrowed := true }
def ImapLoadsUptoSaid : Prop := imapLoadsUptoRow.holds Try.pinned (OpenSpec.upto imapLoadsSpec)

/-- 'drumlintop.DrumlinTables', WHERE WHAT IT READS IS OF BULK AT MOST 1048576: true; the input reads as it did. -/
def drumlinTablesUptoRow : OpenClaim := { program := "ytpmfkamagdifgaa", sum := "ce4a27da3df59c25ecb399c87317e3f708998c038ea1920e97a3500396f009cd", func := "drumlin/drumlintop.DrumlinTables", spec := "drumlinTables", unfollowed := true, recurses := true, apart := false, narrowed := true }
def DrumlinTablesUptoSaid : Prop := drumlinTablesUptoRow.holds Try.pinned (OpenSpec.upto drumlinTablesSpec)

/-- 'drumlinlaw06.DirentNames', WHERE WHAT IT READS IS OF BULK AT MOST 1048576: true; the input reads as it did. -/
def direntNamesUptoRow : OpenClaim := { program := "ytpmfkamagdifgaa", sum := "ce4a27da3df59c25ecb399c87317e3f708998c038ea1920e97a3500396f009cd", func := "drumlin/drumlinlaw06.DirentNames", spec := "direntNames", inPlace := ["internal/bytealg.IndexByteString", "internal/bytealg.IndexString"], unfollowed := true, recurses := true, named := ["internal/bytealg.MaxLen"], apart := false, narrowed := true }
def DirentNamesUptoSaid : Prop := direntNamesUptoRow.holds Try.pinned (OpenSpec.upto direntNamesSpec)

/-- 'drumlinlaw06.DirentWrites', WHERE WHAT IT READS IS OF BULK AT MOST 1048576: true; the input reads as it did. -/
def direntWritesUptoRow : OpenClaim := { program := "ytpmfkamagdifgaa", sum := "ce4a27da3df59c25ecb399c87317e3f708998c038ea1920e97a3500396f009cd", func := "drumlin/drumlinlaw06.DirentWrites", spec := "direntWrites", inPlace := ["internal/bytealg.IndexByteString", "internal/bytealg.IndexString"], unfollowed := true, recurses := true, named := ["internal/bytealg.MaxLen"], apart := false, narrowed := true }
def DirentWritesUptoSaid : Prop := direntWritesUptoRow.holds Try.pinned (OpenSpec.upto direntWritesSpec)

/-- 'drumlinlaw11.SlogPlans', WHERE WHAT IT READS IS OF BULK AT MOST 1048576: true; the input reads as it did. -/
def slogPlansUptoRow : OpenClaim := { program := "ytpmfkamagdifgaa", sum := "ce4a27da3df59c25ecb399c87317e3f708998c038ea1920e97a3500396f009cd", func := "drumlin/drumlinlaw11.SlogPlans", spec := "slogPlans", unfollowed := true, recurses := true, apart := false, narrowed := true }
def SlogPlansUptoSaid : Prop := slogPlansUptoRow.holds Try.pinned (OpenSpec.upto slogPlansSpec)

/-- 'drumlinlaw03.DiskPlays', WHERE WHAT IT READS IS OF BULK AT MOST 1048576: true; the input reads as it did. -/
def diskPlaysUptoRow : OpenClaim := { program := "ytpmfkamagdifgaa", sum := "ce4a27da3df59c25ecb399c87317e3f708998c038ea1920e97a3500396f009cd", func := "drumlin/drumlinlaw03.DiskPlays", spec := "diskPlays", unfollowed := true, recurses := true, apart := false, narrowed := true }
def DiskPlaysUptoSaid : Prop := diskPlaysUptoRow.holds Try.pinned (OpenSpec.upto diskPlaysSpec)

end Rows
end Go.Proofs.Ytpmfkamagdifgaa
