/-
  No cell of these rows narrows 'for every input' (looked for: loops, veiled, ifaces, maps, wideKeys, modest, calm, conditions, laid).
  DERIVED. THE GIVEN ROWS OF THIS SEAT. 11 by the template 'for every input the law returns true; each argument reads behind the call as it read before'; 0 by the template 'total and deterministic' (their statements: YtnlbjpnhepdicaaTotals.lean).
  GIVEN WITH THE SEED: the statements are not yours to turn. If you find one false, say at which input.
  Laid BY PROGRAM, IN A SANDBOX (cutbox-rows.mjs): the forced cells as the released guide's own fill.sh prints them over the translation 936713004baad1ff… (all of the seat's roots in one cut). By AI agents, Wed Nov 11 2026. No macro, syntax, notation, axiom, sorry.
-/
import Derived.Test.YtnlbjpnhepdicaaChecked
import GoSem.Claim
import GoSem.ClaimJoined
import GoSem.ClaimMapViews
import Derived.JoinedTies
import Derived.KernelRfl
namespace Go.Proofs.Ytnlbjpnhepdicaa
/- THE CELL 'sum', in the pinned program and in every row, IS THE sha256 OF THE DUMP (.gsa) THAT YtnlbjpnhepdicaaProg.lean LOADS. Nothing in Lean hashes anything: it is a label: what it is worth is what the hold of that sum in a sandbox is worth. -/
noncomputable def Try.pinned : Pinned := { name := "ytnlbjpnhepdicaa", sum := "936713004baad1ff4c5da2df7df3d80ea4395c9bf543a74fe180c873d77612d5", checked := Try.checked }
namespace Rows
def none {H : Type} : Left H := { results := [], args := [] }

/-- 'drumlinlaw05.CodecSlots': WHATEVER THE INPUT: true; the input reads as it did. -/
def codecSlotsSpec : ChangeSpec := { name := "codecSlots", fn := fun _ => fun
  | [d1, d2] => { results := [.lit (.bool true)], args := [d1, d2] }
  | _ => none }
def codecSlotsRow : OpenClaim := { program := "ytnlbjpnhepdicaa", sum := "936713004baad1ff4c5da2df7df3d80ea4395c9bf543a74fe180c873d77612d5", func := "drumlin/drumlinlaw05.CodecSlots", spec := "codecSlots", unfollowed := true, recurses := true, apart := false }
def CodecSlotsSaid : Prop := codecSlotsRow.holds Try.pinned (OpenSpec.ofChange codecSlotsSpec)

/-- ITS FALSE NEIGHBOUR: 'it returns false'. Refute it at one input. -/
def codecSlotsWrong : ChangeSpec := { name := "codecSlots", fn := fun _ => fun
  | [d1, d2] => { results := [.lit (.bool false)], args := [d1, d2] }
  | _ => none }
def CodecSlotsWrongFalsely : Prop := codecSlotsRow.holds Try.pinned (OpenSpec.ofChange codecSlotsWrong)

/-- 'drumlinlaw05.CodecUses': WHATEVER THE INPUT: true; the input reads as it did. -/
def codecUsesSpec : ChangeSpec := { name := "codecUses", fn := fun _ => fun
  | [d1, d2] => { results := [.lit (.bool true)], args := [d1, d2] }
  | _ => none }
def codecUsesRow : OpenClaim := { program := "ytnlbjpnhepdicaa", sum := "936713004baad1ff4c5da2df7df3d80ea4395c9bf543a74fe180c873d77612d5", func := "drumlin/drumlinlaw05.CodecUses", spec := "codecUses", unfollowed := true, recurses := true, apart := false }
def CodecUsesSaid : Prop := codecUsesRow.holds Try.pinned (OpenSpec.ofChange codecUsesSpec)

/-- ITS FALSE NEIGHBOUR: 'it returns false'. Refute it at one input. -/
def codecUsesWrong : ChangeSpec := { name := "codecUses", fn := fun _ => fun
  | [d1, d2] => { results := [.lit (.bool false)], args := [d1, d2] }
  | _ => none }
def CodecUsesWrongFalsely : Prop := codecUsesRow.holds Try.pinned (OpenSpec.ofChange codecUsesWrong)

/-- 'drumlinlaw09.UsagePlays': WHATEVER THE INPUT: true; the input reads as it did. -/
def usagePlaysSpec : ChangeSpec := { name := "usagePlays", fn := fun _ => fun
  | [d1, d2, d3] => { results := [.lit (.bool true)], args := [d1, d2, d3] }
  | _ => none }
def usagePlaysRow : OpenClaim := { program := "ytnlbjpnhepdicaa", sum := "936713004baad1ff4c5da2df7df3d80ea4395c9bf543a74fe180c873d77612d5", func := "drumlin/drumlinlaw09.UsagePlays", spec := "usagePlays", unfollowed := true, recurses := true, apart := false }
def UsagePlaysSaid : Prop := usagePlaysRow.holds Try.pinned (OpenSpec.ofChange usagePlaysSpec)

/-- ITS FALSE NEIGHBOUR: 'it returns false'. Refute it at one input. -/
def usagePlaysWrong : ChangeSpec := { name := "usagePlays", fn := fun _ => fun
  | [d1, d2, d3] => { results := [.lit (.bool false)], args := [d1, d2, d3] }
  | _ => none }
def UsagePlaysWrongFalsely : Prop := usagePlaysRow.holds Try.pinned (OpenSpec.ofChange usagePlaysWrong)

/-- 'drumlinlaw09.UsageOrders': WHATEVER THE INPUT: true; the input reads as it did. -/
def usageOrdersSpec : ChangeSpec := { name := "usageOrders", fn := fun _ => fun
  | [d1, d2, d3] => { results := [.lit (.bool true)], args := [d1, d2, d3] }
  | _ => none }
def usageOrdersRow : OpenClaim := { program := "ytnlbjpnhepdicaa", sum := "936713004baad1ff4c5da2df7df3d80ea4395c9bf543a74fe180c873d77612d5", func := "drumlin/drumlinlaw09.UsageOrders", spec := "usageOrders", unfollowed := true, recurses := true, apart := false }
def UsageOrdersSaid : Prop := usageOrdersRow.holds Try.pinned (OpenSpec.ofChange usageOrdersSpec)

/-- ITS FALSE NEIGHBOUR: 'it returns false'. Refute it at one input. -/
def usageOrdersWrong : ChangeSpec := { name := "usageOrders", fn := fun _ => fun
  | [d1, d2, d3] => { results := [.lit (.bool false)], args := [d1, d2, d3] }
  | _ => none }
def UsageOrdersWrongFalsely : Prop := usageOrdersRow.holds Try.pinned (OpenSpec.ofChange usageOrdersWrong)

/-- 'drumlinlaw09.UsageLoads': WHATEVER THE INPUT: true; the input reads as it did. -/
def usageLoadsSpec : ChangeSpec := { name := "usageLoads", fn := fun _ => fun
  | [d1, d2] => { results := [.lit (.bool true)], args := [d1, d2] }
  | _ => none }
def usageLoadsRow : OpenClaim := { program := "ytnlbjpnhepdicaa", sum := "936713004baad1ff4c5da2df7df3d80ea4395c9bf543a74fe180c873d77612d5", func := "drumlin/drumlinlaw09.UsageLoads", spec := "usageLoads", unfollowed := true, recurses := true, apart := false }
def UsageLoadsSaid : Prop := usageLoadsRow.holds Try.pinned (OpenSpec.ofChange usageLoadsSpec)

/-- ITS FALSE NEIGHBOUR: 'it returns false'. Refute it at one input. -/
def usageLoadsWrong : ChangeSpec := { name := "usageLoads", fn := fun _ => fun
  | [d1, d2] => { results := [.lit (.bool false)], args := [d1, d2] }
  | _ => none }
def UsageLoadsWrongFalsely : Prop := usageLoadsRow.holds Try.pinned (OpenSpec.ofChange usageLoadsWrong)

/-- 'drumlinlaw09.UsageRanks': WHATEVER THE INPUT: true; the input reads as it did. -/
def usageRanksSpec : ChangeSpec := { name := "usageRanks", fn := fun _ => fun
  | [d] => { results := [.lit (.bool true)], args := [d] }
  | _ => none }
def usageRanksRow : OpenClaim := { program := "ytnlbjpnhepdicaa", sum := "936713004baad1ff4c5da2df7df3d80ea4395c9bf543a74fe180c873d77612d5", func := "drumlin/drumlinlaw09.UsageRanks", spec := "usageRanks", inPlace := ["math.Float64frombits"], unfollowed := true, recurses := true, apart := false }
def UsageRanksSaid : Prop := usageRanksRow.holds Try.pinned (OpenSpec.ofChange usageRanksSpec)

/-- ITS FALSE NEIGHBOUR: 'it returns false'. Refute it at one input. -/
def usageRanksWrong : ChangeSpec := { name := "usageRanks", fn := fun _ => fun
  | [d] => { results := [.lit (.bool false)], args := [d] }
  | _ => none }
def UsageRanksWrongFalsely : Prop := usageRanksRow.holds Try.pinned (OpenSpec.ofChange usageRanksWrong)

/-- 'drumlinlaw09.UsageParts': WHATEVER THE INPUT: true; the input reads as it did. -/
def usagePartsSpec : ChangeSpec := { name := "usageParts", fn := fun _ => fun
  | [d1, d2] => { results := [.lit (.bool true)], args := [d1, d2] }
  | _ => none }
def usagePartsRow : OpenClaim := { program := "ytnlbjpnhepdicaa", sum := "936713004baad1ff4c5da2df7df3d80ea4395c9bf543a74fe180c873d77612d5", func := "drumlin/drumlinlaw09.UsageParts", spec := "usageParts", unfollowed := true, recurses := true, apart := false }
def UsagePartsSaid : Prop := usagePartsRow.holds Try.pinned (OpenSpec.ofChange usagePartsSpec)

/-- ITS FALSE NEIGHBOUR: 'it returns false'. Refute it at one input. -/
def usagePartsWrong : ChangeSpec := { name := "usageParts", fn := fun _ => fun
  | [d1, d2] => { results := [.lit (.bool false)], args := [d1, d2] }
  | _ => none }
def UsagePartsWrongFalsely : Prop := usagePartsRow.holds Try.pinned (OpenSpec.ofChange usagePartsWrong)

/-- 'drumlinlaw10.ImapGives': WHATEVER THE INPUT: true; the input reads as it did. -/
def imapGivesSpec : ChangeSpec := { name := "imapGives", fn := fun _ => fun
  | [d1, d2] => { results := [.lit (.bool true)], args := [d1, d2] }
  | _ => none }
def imapGivesRow : OpenClaim := { program := "ytnlbjpnhepdicaa", sum := "936713004baad1ff4c5da2df7df3d80ea4395c9bf543a74fe180c873d77612d5", func := "drumlin/drumlinlaw10.ImapGives", spec := "imapGives", unfollowed := true, recurses := true, apart := false }
def ImapGivesSaid : Prop := imapGivesRow.holds Try.pinned (OpenSpec.ofChange imapGivesSpec)

/-- ITS FALSE NEIGHBOUR: 'it returns false'. Refute it at one input. -/
def imapGivesWrong : ChangeSpec := { name := "imapGives", fn := fun _ => fun
  | [d1, d2] => { results := [.lit (.bool false)], args := [d1, d2] }
  | _ => none }
def ImapGivesWrongFalsely : Prop := imapGivesRow.holds Try.pinned (OpenSpec.ofChange imapGivesWrong)

/-- 'drumlinlaw10.ImapLoads': WHATEVER THE INPUT: true; the input reads as it did. -/
def imapLoadsSpec : ChangeSpec := { name := "imapLoads", fn := fun _ => fun
  | [d1, d2] => { results := [.lit (.bool true)], args := [d1, d2] }
  | _ => none }
def imapLoadsRow : OpenClaim := { program := "ytnlbjpnhepdicaa", sum := "936713004baad1ff4c5da2df7df3d80ea4395c9bf543a74fe180c873d77612d5", func := "drumlin/drumlinlaw10.ImapLoads", spec := "imapLoads", unfollowed := true, recurses := true, apart := false }
def ImapLoadsSaid : Prop := imapLoadsRow.holds Try.pinned (OpenSpec.ofChange imapLoadsSpec)

/-- ITS FALSE NEIGHBOUR: 'it returns false'. Refute it at one input. -/
def imapLoadsWrong : ChangeSpec := { name := "imapLoads", fn := fun _ => fun
  | [d1, d2] => { results := [.lit (.bool false)], args := [d1, d2] }
  | _ => none }
def ImapLoadsWrongFalsely : Prop := imapLoadsRow.holds Try.pinned (OpenSpec.ofChange imapLoadsWrong)

/-- 'drumlinlaw10.ImapLinks': WHATEVER THE INPUT: true; the input reads as it did. -/
def imapLinksSpec : ChangeSpec := { name := "imapLinks", fn := fun _ => fun
  | [d] => { results := [.lit (.bool true)], args := [d] }
  | _ => none }
def imapLinksRow : OpenClaim := { program := "ytnlbjpnhepdicaa", sum := "936713004baad1ff4c5da2df7df3d80ea4395c9bf543a74fe180c873d77612d5", func := "drumlin/drumlinlaw10.ImapLinks", spec := "imapLinks", unfollowed := true, recurses := true, apart := false }
def ImapLinksSaid : Prop := imapLinksRow.holds Try.pinned (OpenSpec.ofChange imapLinksSpec)

/-- ITS FALSE NEIGHBOUR: 'it returns false'. Refute it at one input. -/
def imapLinksWrong : ChangeSpec := { name := "imapLinks", fn := fun _ => fun
  | [d] => { results := [.lit (.bool false)], args := [d] }
  | _ => none }
def ImapLinksWrongFalsely : Prop := imapLinksRow.holds Try.pinned (OpenSpec.ofChange imapLinksWrong)

/-- 'drumlintop.DrumlinTables': WHATEVER THE INPUT: true; the input reads as it did. -/
def drumlinTablesSpec : ChangeSpec := { name := "drumlinTables", fn := fun _ => fun
  | [d1, d2] => { results := [.lit (.bool true)], args := [d1, d2] }
  | _ => none }
def drumlinTablesRow : OpenClaim := { program := "ytnlbjpnhepdicaa", sum := "936713004baad1ff4c5da2df7df3d80ea4395c9bf543a74fe180c873d77612d5", func := "drumlin/drumlintop.DrumlinTables", spec := "drumlinTables", unfollowed := true, recurses := true, apart := false }
def DrumlinTablesSaid : Prop := drumlinTablesRow.holds Try.pinned (OpenSpec.ofChange drumlinTablesSpec)

/-- ITS FALSE NEIGHBOUR: 'it returns false'. Refute it at one input. -/
def drumlinTablesWrong : ChangeSpec := { name := "drumlinTables", fn := fun _ => fun
  | [d1, d2] => { results := [.lit (.bool false)], args := [d1, d2] }
  | _ => none }
def DrumlinTablesWrongFalsely : Prop := drumlinTablesRow.holds Try.pinned (OpenSpec.ofChange drumlinTablesWrong)

/- THE SECOND FORM. 'bulk': how many values and letters a reading holds, each counted each time it is reached (what is shared counts as often as it is met; a slice's spare places count too). A statement '..UptoSaid' is the law's where the arguments, and the package variables that the reading takes, are together of bulk at most 1048576: NARROWER than '..Said'. Prove '..Said' where nothing that the law and all that it calls make is longer than what came in: it says more and counts as full. Else prove '..UptoSaid'. A law counts once. -/
mutual
def uptoBulk {H : Type} : DataW H → Nat
  | .lit (.string bytes) => bytes.length + 1
  | .lit _ => 1
  | .nil => 1
  | .ptr d => uptoBulk d + 1
  | .slice elems spare => uptoBulkAll elems + uptoBulkAll spare + 1
  | .agg parts => uptoBulkAll parts + 1
  | .iface _ d => uptoBulk d + 1
  | .map entries => uptoBulkEntries entries + 1
  | .held _ => 1
def uptoBulkAll {H : Type} : List (DataW H) → Nat
  | [] => 0
  | d :: r => uptoBulk d + uptoBulkAll r
def uptoBulkEntries {H : Type} : List (Lit × DataW H) → Nat
  | [] => 0
  | x :: r => uptoBulkEntry x + uptoBulkEntries r
def uptoBulkEntry {H : Type} : Lit × DataW H → Nat
  | (.string bytes, d) => bytes.length + uptoBulk d + 1
  | (_, d) => uptoBulk d + 1
 end
def uptoSmall : (H : Type) → List (DataW H) → Bool := fun _ ds => decide (uptoBulkAll ds ≤ 1048576)
def OpenSpec.upto (s : _root_.Go.ChangeSpec) : _root_.Go.OpenSpec := { _root_.Go.OpenSpec.ofChange s with cond := some uptoSmall }

/-- 'drumlinlaw05.CodecSlots', WHERE WHAT IT READS IS OF BULK AT MOST 1048576: true; the input reads as it did. -/
def codecSlotsUptoRow : OpenClaim := { program := "ytnlbjpnhepdicaa", sum := "936713004baad1ff4c5da2df7df3d80ea4395c9bf543a74fe180c873d77612d5", func := "drumlin/drumlinlaw05.CodecSlots", spec := "codecSlots", unfollowed := true, recurses := true, apart := false, narrowed := true }
def CodecSlotsUptoSaid : Prop := codecSlotsUptoRow.holds Try.pinned (OpenSpec.upto codecSlotsSpec)

/-- 'drumlinlaw05.CodecUses', WHERE WHAT IT READS IS OF BULK AT MOST 1048576: true; the input reads as it did. -/
def codecUsesUptoRow : OpenClaim := { program := "ytnlbjpnhepdicaa", sum := "936713004baad1ff4c5da2df7df3d80ea4395c9bf543a74fe180c873d77612d5", func := "drumlin/drumlinlaw05.CodecUses", spec := "codecUses", unfollowed := true, recurses := true, apart := false, narrowed := true }
def CodecUsesUptoSaid : Prop := codecUsesUptoRow.holds Try.pinned (OpenSpec.upto codecUsesSpec)

/-- 'drumlinlaw09.UsagePlays', WHERE WHAT IT READS IS OF BULK AT MOST 1048576: true; the input reads as it did. -/
def usagePlaysUptoRow : OpenClaim := { program := "ytnlbjpnhepdicaa", sum := "936713004baad1ff4c5da2df7df3d80ea4395c9bf543a74fe180c873d77612d5", func := "drumlin/drumlinlaw09.UsagePlays", spec := "usagePlays", unfollowed := true, recurses := true, apart := false, narrowed := true }
def UsagePlaysUptoSaid : Prop := usagePlaysUptoRow.holds Try.pinned (OpenSpec.upto usagePlaysSpec)

/-- 'drumlinlaw09.UsageOrders', WHERE WHAT IT READS IS OF BULK AT MOST 1048576: true; the input reads as it did. -/
def usageOrdersUptoRow : OpenClaim := { program := "ytnlbjpnhepdicaa", sum := "936713004baad1ff4c5da2df7df3d80ea4395c9bf543a74fe180c873d77612d5", func := "drumlin/drumlinlaw09.UsageOrders", spec := "usageOrders", unfollowed := true, recurses := true, apart := false, narrowed := true }
def UsageOrdersUptoSaid : Prop := usageOrdersUptoRow.holds Try.pinned (OpenSpec.upto usageOrdersSpec)

/-- 'drumlinlaw09.UsageLoads', WHERE WHAT IT READS IS OF BULK AT MOST 1048576: true; the input reads as it did. -/
def usageLoadsUptoRow : OpenClaim := { program := "ytnlbjpnhepdicaa", sum := "936713004baad1ff4c5da2df7df3d80ea4395c9bf543a74fe180c873d77612d5", func := "drumlin/drumlinlaw09.UsageLoads", spec := "usageLoads", unfollowed := true, recurses := true, apart := false, narrowed := true }
def UsageLoadsUptoSaid : Prop := usageLoadsUptoRow.holds Try.pinned (OpenSpec.upto usageLoadsSpec)

/-- 'drumlinlaw09.UsageRanks', WHERE WHAT IT READS IS OF BULK AT MOST 1048576: true; the input reads as it did. -/
def usageRanksUptoRow : OpenClaim := { program := "ytnlbjpnhepdicaa", sum := "936713004baad1ff4c5da2df7df3d80ea4395c9bf543a74fe180c873d77612d5", func := "drumlin/drumlinlaw09.UsageRanks", spec := "usageRanks", inPlace := ["math.Float64frombits"], unfollowed := true, recurses := true, apart := false, narrowed := true }
def UsageRanksUptoSaid : Prop := usageRanksUptoRow.holds Try.pinned (OpenSpec.upto usageRanksSpec)

/-- 'drumlinlaw09.UsageParts', WHERE WHAT IT READS IS OF BULK AT MOST 1048576: true; the input reads as it did. -/
def usagePartsUptoRow : OpenClaim := { program := "ytnlbjpnhepdicaa", sum := "936713004baad1ff4c5da2df7df3d80ea4395c9bf543a74fe180c873d77612d5", func := "drumlin/drumlinlaw09.UsageParts", spec := "usageParts", unfollowed := true, recurses := true, apart := false, narrowed := true }
def UsagePartsUptoSaid : Prop := usagePartsUptoRow.holds Try.pinned (OpenSpec.upto usagePartsSpec)

/-- 'drumlinlaw10.ImapGives', WHERE WHAT IT READS IS OF BULK AT MOST 1048576: true; the input reads as it did. -/
def imapGivesUptoRow : OpenClaim := { program := "ytnlbjpnhepdicaa", sum := "936713004baad1ff4c5da2df7df3d80ea4395c9bf543a74fe180c873d77612d5", func := "drumlin/drumlinlaw10.ImapGives", spec := "imapGives", unfollowed := true, recurses := true, apart := false, narrowed := true }
def ImapGivesUptoSaid : Prop := imapGivesUptoRow.holds Try.pinned (OpenSpec.upto imapGivesSpec)

/-- 'drumlinlaw10.ImapLoads', WHERE WHAT IT READS IS OF BULK AT MOST 1048576: true; the input reads as it did. -/
def imapLoadsUptoRow : OpenClaim := { program := "ytnlbjpnhepdicaa", sum := "936713004baad1ff4c5da2df7df3d80ea4395c9bf543a74fe180c873d77612d5", func := "drumlin/drumlinlaw10.ImapLoads", spec := "imapLoads", unfollowed := true, recurses := true, apart := false, narrowed := true }
def ImapLoadsUptoSaid : Prop := imapLoadsUptoRow.holds Try.pinned (OpenSpec.upto imapLoadsSpec)

/-- 'drumlinlaw10.ImapLinks', WHERE WHAT IT READS IS OF BULK AT MOST 1048576: true; the input reads as it did. -/
def imapLinksUptoRow : OpenClaim := { program := "ytnlbjpnhepdicaa", sum := "936713004baad1ff4c5da2df7df3d80ea4395c9bf543a74fe180c873d77612d5", func := "drumlin/drumlinlaw10.ImapLinks", spec := "imapLinks", unfollowed := true, recurses := true, apart := false, narrowed := true }
def ImapLinksUptoSaid : Prop := imapLinksUptoRow.holds Try.pinned (OpenSpec.upto imapLinksSpec)

/-- 'drumlintop.DrumlinTables', WHERE WHAT IT READS IS OF BULK AT MOST 1048576: true; the input reads as it did. -/
def drumlinTablesUptoRow : OpenClaim := { program := "ytnlbjpnhepdicaa", sum := "936713004baad1ff4c5da2df7df3d80ea4395c9bf543a74fe180c873d77612d5", func := "drumlin/drumlintop.DrumlinTables", spec := "drumlinTables", unfollowed := true, recurses := true, apart := false, narrowed := true }
def DrumlinTablesUptoSaid : Prop := drumlinTablesUptoRow.holds Try.pinned (OpenSpec.upto drumlinTablesSpec)

end Rows
end Go.Proofs.Ytnlbjpnhepdicaa
