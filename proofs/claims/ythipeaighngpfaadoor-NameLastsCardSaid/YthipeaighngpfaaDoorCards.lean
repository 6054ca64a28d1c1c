/-
  DERIVED. GIVEN WITH THE SEED: THE CARDS: each row of YthipeaighngpfaaDoorRows.lean that lists a variable, with what it lists TIED to the program's text (the seventh form; the later family's looks); each row that meets fmt, with fmt's text TOLD by the authors' own Lean function (tested against real Go, not proved from fmt's source: count such statements apart). THE CARD IS WHAT COUNTS. Prove the row's statement (the work); the ties are given (YthipeaighngpfaaDoorTie.lean); close each card by the builder's one call (the guide's Derived/Test/ToyasCard.lean, 'card_holds'). Laid BY PROGRAM, IN A SANDBOX (cutbox-door.mjs). By AI agents, Wed Nov 11 2026. No macro, syntax, notation, axiom, sorry.
-/
import Derived.Test.YthipeaighngpfaaDoorRows
import GoSem.ClaimSeven
namespace Go.Proofs.YthipeaighngpfaaDoor
namespace Rows

/-- THE TIED CARD OF 'drumlinlaw07.PtrBlocks'. -/
def ptrBlocksCard : Claim7 := { stood := { row := ptrBlocksRow, standIns := [], harness := (true, "52d4abc8af79b3bd0b4b2d8e7afc14830e22ccd94d0ec72f3005c00dc6f96c83"), looks := false }, kinds := [], alts := [], laidByText := true, laidKinds := [.data], laidTests := true, laidLooks := .later }
def PtrBlocksCardSaid : Prop := Claim7.holds Tryd.pinned (.plain (OpenSpec.ofChange ptrBlocksSpec)) ptrBlocksCard

/-- THE TIED CARD OF 'drumlinlaw07.PtrShares'. -/
def ptrSharesCard : Claim7 := { stood := { row := ptrSharesRow, standIns := [], harness := (true, "52d4abc8af79b3bd0b4b2d8e7afc14830e22ccd94d0ec72f3005c00dc6f96c83"), looks := false }, kinds := [], alts := [], laidByText := true, laidKinds := [.data], laidTests := true, laidLooks := .later }
def PtrSharesCardSaid : Prop := Claim7.holds Tryd.pinned (.plain (OpenSpec.ofChange ptrSharesSpec)) ptrSharesCard

/-- THE TIED CARD OF 'drumlinlaw07.PtrPlaces'. -/
def ptrPlacesCard : Claim7 := { stood := { row := ptrPlacesRow, standIns := [], harness := (true, "52d4abc8af79b3bd0b4b2d8e7afc14830e22ccd94d0ec72f3005c00dc6f96c83"), looks := false }, kinds := [], alts := [], laidByText := true, laidKinds := [.data], laidTests := true, laidLooks := .later }
def PtrPlacesCardSaid : Prop := Claim7.holds Tryd.pinned (.plain (OpenSpec.ofChange ptrPlacesSpec)) ptrPlacesCard

/-- THE TIED CARD OF 'drumlinlaw07.PtrCuts'. -/
def ptrCutsCard : Claim7 := { stood := { row := ptrCutsRow, standIns := [], harness := (true, "52d4abc8af79b3bd0b4b2d8e7afc14830e22ccd94d0ec72f3005c00dc6f96c83"), looks := false }, kinds := [], alts := [], laidByText := true, laidKinds := [.data], laidTests := true, laidLooks := .later }
def PtrCutsCardSaid : Prop := Claim7.holds Tryd.pinned (.plain (OpenSpec.ofChange ptrCutsSpec)) ptrCutsCard

/-- THE TIED CARD OF 'drumlinlaw07.PtrCosts'. -/
def ptrCostsCard : Claim7 := { stood := { row := ptrCostsRow, standIns := [], harness := (true, "52d4abc8af79b3bd0b4b2d8e7afc14830e22ccd94d0ec72f3005c00dc6f96c83"), looks := false }, kinds := [], alts := [], laidByText := true, laidKinds := [.data], laidTests := true, laidLooks := .later }
def PtrCostsCardSaid : Prop := Claim7.holds Tryd.pinned (.plain (OpenSpec.ofChange ptrCostsSpec)) ptrCostsCard

/-- THE TIED CARD OF 'drumlinlaw08.NameParses'. -/
def nameParsesCard : Claim7 := { stood := { row := nameParsesRow, standIns := [], harness := (true, "52d4abc8af79b3bd0b4b2d8e7afc14830e22ccd94d0ec72f3005c00dc6f96c83"), looks := false }, kinds := [], alts := [], laidByText := true, laidKinds := [.data, .pinned], laidTests := true, laidLooks := .later }
def NameParsesCardSaid : Prop := Claim7.holds Tryd.pinned (.plain (OpenSpec.ofChange nameParsesSpec)) nameParsesCard

/-- THE TIED CARD OF 'drumlinlaw08.NameLasts'. -/
def nameLastsCard : Claim7 := { stood := { row := nameLastsRow, standIns := [], harness := (true, "52d4abc8af79b3bd0b4b2d8e7afc14830e22ccd94d0ec72f3005c00dc6f96c83"), looks := false }, kinds := [], alts := [], laidByText := true, laidKinds := [.data, .pinned], laidTests := true, laidLooks := .later }
def NameLastsCardSaid : Prop := Claim7.holds Tryd.pinned (.plain (OpenSpec.ofChange nameLastsSpec)) nameLastsCard

/-- THE TIED CARD OF 'drumlinlaw08.NameJoins'. -/
def nameJoinsCard : Claim7 := { stood := { row := nameJoinsRow, standIns := [], harness := (true, "52d4abc8af79b3bd0b4b2d8e7afc14830e22ccd94d0ec72f3005c00dc6f96c83"), looks := false }, kinds := [], alts := [], laidByText := true, laidKinds := [.data, .pinned], laidTests := true, laidLooks := .later }
def NameJoinsCardSaid : Prop := Claim7.holds Tryd.pinned (.plain (OpenSpec.ofChange nameJoinsSpec)) nameJoinsCard

/-- THE TIED CARD OF 'drumlinlaw08.NameKeeps'. -/
def nameKeepsCard : Claim7 := { stood := { row := nameKeepsRow, standIns := [], harness := (true, "52d4abc8af79b3bd0b4b2d8e7afc14830e22ccd94d0ec72f3005c00dc6f96c83"), looks := false }, kinds := [], alts := [], laidByText := true, laidKinds := [.data, .pinned], laidTests := true, laidLooks := .later }
def NameKeepsCardSaid : Prop := Claim7.holds Tryd.pinned (.plain (OpenSpec.ofChange nameKeepsSpec)) nameKeepsCard

/-- THE TIED CARD OF 'drumlinlaw08.NameCleans'. -/
def nameCleansCard : Claim7 := { stood := { row := nameCleansRow, standIns := [], harness := (true, "52d4abc8af79b3bd0b4b2d8e7afc14830e22ccd94d0ec72f3005c00dc6f96c83"), looks := false }, kinds := [], alts := [], laidByText := true, laidKinds := [.data, .pinned], laidTests := true, laidLooks := .later }
def NameCleansCardSaid : Prop := Claim7.holds Tryd.pinned (.plain (OpenSpec.ofChange nameCleansSpec)) nameCleansCard

/-- THE TIED CARD OF 'drumlintop.DrumlinPaths'. -/
def drumlinPathsCard : Claim7 := { stood := { row := drumlinPathsRow, standIns := [], harness := (true, "52d4abc8af79b3bd0b4b2d8e7afc14830e22ccd94d0ec72f3005c00dc6f96c83"), looks := false }, kinds := [], alts := [], laidByText := true, laidKinds := [.data, .data, .pinned], laidTests := true, laidLooks := .later }
def DrumlinPathsCardSaid : Prop := Claim7.holds Tryd.pinned (.plain (OpenSpec.ofChange drumlinPathsSpec)) drumlinPathsCard

/-- THE SECOND FORM's CARD OF 'drumlinlaw07.PtrBlocks'. -/
def ptrBlocksUptoCard : Claim7 := { stood := { row := ptrBlocksUptoRow, standIns := [], harness := (true, "52d4abc8af79b3bd0b4b2d8e7afc14830e22ccd94d0ec72f3005c00dc6f96c83"), looks := false }, kinds := [], alts := [], laidByText := true, laidKinds := [.data], laidTests := true, laidLooks := .later }
def PtrBlocksUptoCardSaid : Prop := Claim7.holds Tryd.pinned (.plain (OpenSpec.upto ptrBlocksSpec)) ptrBlocksUptoCard

/-- THE SECOND FORM's CARD OF 'drumlinlaw07.PtrShares'. -/
def ptrSharesUptoCard : Claim7 := { stood := { row := ptrSharesUptoRow, standIns := [], harness := (true, "52d4abc8af79b3bd0b4b2d8e7afc14830e22ccd94d0ec72f3005c00dc6f96c83"), looks := false }, kinds := [], alts := [], laidByText := true, laidKinds := [.data], laidTests := true, laidLooks := .later }
def PtrSharesUptoCardSaid : Prop := Claim7.holds Tryd.pinned (.plain (OpenSpec.upto ptrSharesSpec)) ptrSharesUptoCard

/-- THE SECOND FORM's CARD OF 'drumlinlaw07.PtrPlaces'. -/
def ptrPlacesUptoCard : Claim7 := { stood := { row := ptrPlacesUptoRow, standIns := [], harness := (true, "52d4abc8af79b3bd0b4b2d8e7afc14830e22ccd94d0ec72f3005c00dc6f96c83"), looks := false }, kinds := [], alts := [], laidByText := true, laidKinds := [.data], laidTests := true, laidLooks := .later }
def PtrPlacesUptoCardSaid : Prop := Claim7.holds Tryd.pinned (.plain (OpenSpec.upto ptrPlacesSpec)) ptrPlacesUptoCard

/-- THE SECOND FORM's CARD OF 'drumlinlaw07.PtrCuts'. -/
def ptrCutsUptoCard : Claim7 := { stood := { row := ptrCutsUptoRow, standIns := [], harness := (true, "52d4abc8af79b3bd0b4b2d8e7afc14830e22ccd94d0ec72f3005c00dc6f96c83"), looks := false }, kinds := [], alts := [], laidByText := true, laidKinds := [.data], laidTests := true, laidLooks := .later }
def PtrCutsUptoCardSaid : Prop := Claim7.holds Tryd.pinned (.plain (OpenSpec.upto ptrCutsSpec)) ptrCutsUptoCard

/-- THE SECOND FORM's CARD OF 'drumlinlaw07.PtrCosts'. -/
def ptrCostsUptoCard : Claim7 := { stood := { row := ptrCostsUptoRow, standIns := [], harness := (true, "52d4abc8af79b3bd0b4b2d8e7afc14830e22ccd94d0ec72f3005c00dc6f96c83"), looks := false }, kinds := [], alts := [], laidByText := true, laidKinds := [.data], laidTests := true, laidLooks := .later }
def PtrCostsUptoCardSaid : Prop := Claim7.holds Tryd.pinned (.plain (OpenSpec.upto ptrCostsSpec)) ptrCostsUptoCard

/-- THE SECOND FORM's CARD OF 'drumlinlaw08.NameParses'. -/
def nameParsesUptoCard : Claim7 := { stood := { row := nameParsesUptoRow, standIns := [], harness := (true, "52d4abc8af79b3bd0b4b2d8e7afc14830e22ccd94d0ec72f3005c00dc6f96c83"), looks := false }, kinds := [], alts := [], laidByText := true, laidKinds := [.data, .pinned], laidTests := true, laidLooks := .later }
def NameParsesUptoCardSaid : Prop := Claim7.holds Tryd.pinned (.plain (OpenSpec.upto nameParsesSpec)) nameParsesUptoCard

/-- THE SECOND FORM's CARD OF 'drumlinlaw08.NameLasts'. -/
def nameLastsUptoCard : Claim7 := { stood := { row := nameLastsUptoRow, standIns := [], harness := (true, "52d4abc8af79b3bd0b4b2d8e7afc14830e22ccd94d0ec72f3005c00dc6f96c83"), looks := false }, kinds := [], alts := [], laidByText := true, laidKinds := [.data, .pinned], laidTests := true, laidLooks := .later }
def NameLastsUptoCardSaid : Prop := Claim7.holds Tryd.pinned (.plain (OpenSpec.upto nameLastsSpec)) nameLastsUptoCard

/-- THE SECOND FORM's CARD OF 'drumlinlaw08.NameJoins'. -/
def nameJoinsUptoCard : Claim7 := { stood := { row := nameJoinsUptoRow, standIns := [], harness := (true, "52d4abc8af79b3bd0b4b2d8e7afc14830e22ccd94d0ec72f3005c00dc6f96c83"), looks := false }, kinds := [], alts := [], laidByText := true, laidKinds := [.data, .pinned], laidTests := true, laidLooks := .later }
def NameJoinsUptoCardSaid : Prop := Claim7.holds Tryd.pinned (.plain (OpenSpec.upto nameJoinsSpec)) nameJoinsUptoCard

/-- THE SECOND FORM's CARD OF 'drumlinlaw08.NameKeeps'. -/
def nameKeepsUptoCard : Claim7 := { stood := { row := nameKeepsUptoRow, standIns := [], harness := (true, "52d4abc8af79b3bd0b4b2d8e7afc14830e22ccd94d0ec72f3005c00dc6f96c83"), looks := false }, kinds := [], alts := [], laidByText := true, laidKinds := [.data, .pinned], laidTests := true, laidLooks := .later }
def NameKeepsUptoCardSaid : Prop := Claim7.holds Tryd.pinned (.plain (OpenSpec.upto nameKeepsSpec)) nameKeepsUptoCard

/-- THE SECOND FORM's CARD OF 'drumlinlaw08.NameCleans'. -/
def nameCleansUptoCard : Claim7 := { stood := { row := nameCleansUptoRow, standIns := [], harness := (true, "52d4abc8af79b3bd0b4b2d8e7afc14830e22ccd94d0ec72f3005c00dc6f96c83"), looks := false }, kinds := [], alts := [], laidByText := true, laidKinds := [.data, .pinned], laidTests := true, laidLooks := .later }
def NameCleansUptoCardSaid : Prop := Claim7.holds Tryd.pinned (.plain (OpenSpec.upto nameCleansSpec)) nameCleansUptoCard

/-- THE SECOND FORM's CARD OF 'drumlintop.DrumlinPaths'. -/
def drumlinPathsUptoCard : Claim7 := { stood := { row := drumlinPathsUptoRow, standIns := [], harness := (true, "52d4abc8af79b3bd0b4b2d8e7afc14830e22ccd94d0ec72f3005c00dc6f96c83"), looks := false }, kinds := [], alts := [], laidByText := true, laidKinds := [.data, .data, .pinned], laidTests := true, laidLooks := .later }
def DrumlinPathsUptoCardSaid : Prop := Claim7.holds Tryd.pinned (.plain (OpenSpec.upto drumlinPathsSpec)) drumlinPathsUptoCard
end Rows
end Go.Proofs.YthipeaighngpfaaDoor
