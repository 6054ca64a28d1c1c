/-
  DERIVED. GIVEN WITH THE SEED: THE CARDS: each row of YtebgejoemlgggaaDoorRows.lean that lists a variable, with what it lists TIED to the program's text (the seventh form; the later family's looks); each row that meets fmt, with fmt's text TOLD by the authors' own Lean function (tested against real Go, not proved from fmt's source: count such statements apart). THE CARD IS WHAT COUNTS. Prove the row's statement (the work); the ties are given (YtebgejoemlgggaaDoorTie.lean); close each card by the builder's one call (the guide's Derived/Test/ToyasCard.lean, 'card_holds'). Laid BY PROGRAM, IN A SANDBOX (cutbox-door.mjs). By AI agents, Wed Nov 11 2026. No macro, syntax, notation, axiom, sorry.
-/
import Derived.Test.YtebgejoemlgggaaDoorRows
import GoSem.ClaimSeven
namespace Go.Proofs.YtebgejoemlgggaaDoor
namespace Rows

/-- THE TIED CARD OF 'drumlinlaw23.SysChecks'. -/
def sysChecksCard : Claim7 := { stood := { row := sysChecksRow, standIns := [], harness := (true, "86db2d9d98f1984079de26e3bd4616568c078ddc7ace08e523cba99600beb19d"), looks := true }, kinds := [], alts := [], laidByText := true, laidKinds := [.data, .data, .data, .data, .sentinel, .sentinel, .widerDeep, .pinned], laidTests := true, laidLooks := .later }
def SysChecksCardSaid : Prop := Claim7.holds Tryd.pinned (.plain (OpenSpec.ofChange sysChecksSpec)) sysChecksCard

/-- THE TIED CARD OF 'drumlinlaw23.SysParses'. -/
def sysParsesCard : Claim7 := { stood := { row := sysParsesRow, standIns := [], harness := (true, "86db2d9d98f1984079de26e3bd4616568c078ddc7ace08e523cba99600beb19d"), looks := true }, kinds := [], alts := [], laidByText := true, laidKinds := [.data, .data, .data, .data, .sentinel, .sentinel, .widerDeep, .pinned], laidTests := true, laidLooks := .later }
def SysParsesCardSaid : Prop := Claim7.holds Tryd.pinned (.plain (OpenSpec.ofChange sysParsesSpec)) sysParsesCard

/-- THE TIED CARD OF 'drumlinlaw23.SysEscapes'. -/
def sysEscapesCard : Claim7 := { stood := { row := sysEscapesRow, standIns := [], harness := (true, "86db2d9d98f1984079de26e3bd4616568c078ddc7ace08e523cba99600beb19d"), looks := true }, kinds := [], alts := [], laidByText := true, laidKinds := [.data, .data, .data, .data, .sentinel, .sentinel, .widerDeep, .pinned], laidTests := true, laidLooks := .later }
def SysEscapesCardSaid : Prop := Claim7.holds Tryd.pinned (.plain (OpenSpec.ofChange sysEscapesSpec)) sysEscapesCard

/-- THE TIED CARD OF 'drumlinlaw23.SysAnswers'. -/
def sysAnswersCard : Claim7 := { stood := { row := sysAnswersRow, standIns := [], harness := (true, "86db2d9d98f1984079de26e3bd4616568c078ddc7ace08e523cba99600beb19d"), looks := true }, kinds := [], alts := [], laidByText := true, laidKinds := [.data, .data, .data, .data, .sentinel, .sentinel, .widerDeep, .pinned], laidTests := true, laidLooks := .later }
def SysAnswersCardSaid : Prop := Claim7.holds Tryd.pinned (.plain (OpenSpec.ofChange sysAnswersSpec)) sysAnswersCard

/-- THE TIED CARD OF 'drumlinlaw23.SysUnlike'. -/
def sysUnlikeCard : Claim7 := { stood := { row := sysUnlikeRow, standIns := [], harness := (true, "86db2d9d98f1984079de26e3bd4616568c078ddc7ace08e523cba99600beb19d"), looks := true }, kinds := [], alts := [], laidByText := true, laidKinds := [.data, .data, .data, .data, .sentinel, .sentinel, .widerDeep, .pinned], laidTests := true, laidLooks := .later }
def SysUnlikeCardSaid : Prop := Claim7.holds Tryd.pinned (.plain (OpenSpec.ofChange sysUnlikeSpec)) sysUnlikeCard

/-- THE TIED CARD OF 'drumlinlaw25.TraceParses'. -/
def traceParsesCard : Claim7 := { stood := { row := traceParsesRow, standIns := [], harness := (true, "86db2d9d98f1984079de26e3bd4616568c078ddc7ace08e523cba99600beb19d"), looks := true }, kinds := [], alts := [], laidByText := true, laidKinds := [.data, .data, .data, .data, .sentinel, .sentinel, .widerDeep, .data, .pinned], laidTests := true, laidLooks := .later }
def TraceParsesCardSaid : Prop := Claim7.holds Tryd.pinned (.plain (OpenSpec.ofChange traceParsesSpec)) traceParsesCard

/-- THE TIED CARD OF 'drumlinlaw25.TraceReads'. -/
def traceReadsCard : Claim7 := { stood := { row := traceReadsRow, standIns := [], harness := (true, "86db2d9d98f1984079de26e3bd4616568c078ddc7ace08e523cba99600beb19d"), looks := true }, kinds := [], alts := [], laidByText := true, laidKinds := [.data, .data, .data, .data, .sentinel, .sentinel, .widerDeep, .data, .pinned], laidTests := true, laidLooks := .later }
def TraceReadsCardSaid : Prop := Claim7.holds Tryd.pinned (.plain (OpenSpec.ofChange traceReadsSpec)) traceReadsCard

/-- THE TIED CARD OF 'drumlinlaw25.TraceUses'. -/
def traceUsesCard : Claim7 := { stood := { row := traceUsesRow, standIns := [], harness := (true, "86db2d9d98f1984079de26e3bd4616568c078ddc7ace08e523cba99600beb19d"), looks := true }, kinds := [], alts := [], laidByText := true, laidKinds := [.data, .data, .data, .data, .sentinel, .sentinel, .widerDeep, .data, .pinned], laidTests := true, laidLooks := .later }
def TraceUsesCardSaid : Prop := Claim7.holds Tryd.pinned (.plain (OpenSpec.ofChange traceUsesSpec)) traceUsesCard

/-- THE SECOND FORM's CARD OF 'drumlinlaw23.SysChecks'. -/
def sysChecksUptoCard : Claim7 := { stood := { row := sysChecksUptoRow, standIns := [], harness := (true, "86db2d9d98f1984079de26e3bd4616568c078ddc7ace08e523cba99600beb19d"), looks := true }, kinds := [], alts := [], laidByText := true, laidKinds := [.data, .data, .data, .data, .sentinel, .sentinel, .widerDeep, .pinned], laidTests := true, laidLooks := .later }
def SysChecksUptoCardSaid : Prop := Claim7.holds Tryd.pinned (.plain (OpenSpec.upto sysChecksSpec)) sysChecksUptoCard

/-- THE SECOND FORM's CARD OF 'drumlinlaw23.SysParses'. -/
def sysParsesUptoCard : Claim7 := { stood := { row := sysParsesUptoRow, standIns := [], harness := (true, "86db2d9d98f1984079de26e3bd4616568c078ddc7ace08e523cba99600beb19d"), looks := true }, kinds := [], alts := [], laidByText := true, laidKinds := [.data, .data, .data, .data, .sentinel, .sentinel, .widerDeep, .pinned], laidTests := true, laidLooks := .later }
def SysParsesUptoCardSaid : Prop := Claim7.holds Tryd.pinned (.plain (OpenSpec.upto sysParsesSpec)) sysParsesUptoCard

/-- THE SECOND FORM's CARD OF 'drumlinlaw23.SysEscapes'. -/
def sysEscapesUptoCard : Claim7 := { stood := { row := sysEscapesUptoRow, standIns := [], harness := (true, "86db2d9d98f1984079de26e3bd4616568c078ddc7ace08e523cba99600beb19d"), looks := true }, kinds := [], alts := [], laidByText := true, laidKinds := [.data, .data, .data, .data, .sentinel, .sentinel, .widerDeep, .pinned], laidTests := true, laidLooks := .later }
def SysEscapesUptoCardSaid : Prop := Claim7.holds Tryd.pinned (.plain (OpenSpec.upto sysEscapesSpec)) sysEscapesUptoCard

/-- THE SECOND FORM's CARD OF 'drumlinlaw23.SysAnswers'. -/
def sysAnswersUptoCard : Claim7 := { stood := { row := sysAnswersUptoRow, standIns := [], harness := (true, "86db2d9d98f1984079de26e3bd4616568c078ddc7ace08e523cba99600beb19d"), looks := true }, kinds := [], alts := [], laidByText := true, laidKinds := [.data, .data, .data, .data, .sentinel, .sentinel, .widerDeep, .pinned], laidTests := true, laidLooks := .later }
def SysAnswersUptoCardSaid : Prop := Claim7.holds Tryd.pinned (.plain (OpenSpec.upto sysAnswersSpec)) sysAnswersUptoCard

/-- THE SECOND FORM's CARD OF 'drumlinlaw23.SysUnlike'. -/
def sysUnlikeUptoCard : Claim7 := { stood := { row := sysUnlikeUptoRow, standIns := [], harness := (true, "86db2d9d98f1984079de26e3bd4616568c078ddc7ace08e523cba99600beb19d"), looks := true }, kinds := [], alts := [], laidByText := true, laidKinds := [.data, .data, .data, .data, .sentinel, .sentinel, .widerDeep, .pinned], laidTests := true, laidLooks := .later }
def SysUnlikeUptoCardSaid : Prop := Claim7.holds Tryd.pinned (.plain (OpenSpec.upto sysUnlikeSpec)) sysUnlikeUptoCard

/-- THE SECOND FORM's CARD OF 'drumlinlaw25.TraceParses'. -/
def traceParsesUptoCard : Claim7 := { stood := { row := traceParsesUptoRow, standIns := [], harness := (true, "86db2d9d98f1984079de26e3bd4616568c078ddc7ace08e523cba99600beb19d"), looks := true }, kinds := [], alts := [], laidByText := true, laidKinds := [.data, .data, .data, .data, .sentinel, .sentinel, .widerDeep, .data, .pinned], laidTests := true, laidLooks := .later }
def TraceParsesUptoCardSaid : Prop := Claim7.holds Tryd.pinned (.plain (OpenSpec.upto traceParsesSpec)) traceParsesUptoCard

/-- THE SECOND FORM's CARD OF 'drumlinlaw25.TraceReads'. -/
def traceReadsUptoCard : Claim7 := { stood := { row := traceReadsUptoRow, standIns := [], harness := (true, "86db2d9d98f1984079de26e3bd4616568c078ddc7ace08e523cba99600beb19d"), looks := true }, kinds := [], alts := [], laidByText := true, laidKinds := [.data, .data, .data, .data, .sentinel, .sentinel, .widerDeep, .data, .pinned], laidTests := true, laidLooks := .later }
def TraceReadsUptoCardSaid : Prop := Claim7.holds Tryd.pinned (.plain (OpenSpec.upto traceReadsSpec)) traceReadsUptoCard

/-- THE SECOND FORM's CARD OF 'drumlinlaw25.TraceUses'. -/
def traceUsesUptoCard : Claim7 := { stood := { row := traceUsesUptoRow, standIns := [], harness := (true, "86db2d9d98f1984079de26e3bd4616568c078ddc7ace08e523cba99600beb19d"), looks := true }, kinds := [], alts := [], laidByText := true, laidKinds := [.data, .data, .data, .data, .sentinel, .sentinel, .widerDeep, .data, .pinned], laidTests := true, laidLooks := .later }
def TraceUsesUptoCardSaid : Prop := Claim7.holds Tryd.pinned (.plain (OpenSpec.upto traceUsesSpec)) traceUsesUptoCard
end Rows
end Go.Proofs.YtebgejoemlgggaaDoor
