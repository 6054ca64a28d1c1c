/-
  DERIVED. GIVEN WITH THE SEED: THE CARDS: each row of YtcpbffmffoneeaaDoorRows.lean that lists a variable, with what it lists TIED to the program's text (the seventh form; the later family's looks); each row that meets fmt, with fmt's text TOLD by the authors' own Lean function (tested against real Go, not proved from fmt's source: count such statements apart). THE CARD IS WHAT COUNTS. Prove the row's statement (the work); the ties are given (YtcpbffmffoneeaaDoorTie.lean); close each card by the builder's one call (the guide's Derived/Test/ToyasCard.lean, 'card_holds'). Laid BY PROGRAM, IN A SANDBOX (cutbox-door.mjs). By AI agents, Wed Nov 11 2026. No macro, syntax, notation, axiom, sorry.
-/
import Derived.Test.YtcpbffmffoneeaaDoorRows
import GoSem.ClaimSeven
namespace Go.Proofs.YtcpbffmffoneeaaDoor
namespace Rows

/-- THE TIED CARD OF 'drumlintop.DrumlinPaths'. -/
def drumlinPathsCard : Claim7 := { stood := { row := drumlinPathsRow, standIns := [], harness := (true, "dbe7d484cb0c14301605c09961acbb54bf4e5b310130b203be3000db47fc455b"), looks := false }, kinds := [], alts := [], laidByText := true, laidKinds := [.data, .data, .pinned], laidTests := true, laidLooks := .later }
def DrumlinPathsCardSaid : Prop := Claim7.holds Tryd.pinned (.plain (OpenSpec.ofChange drumlinPathsSpec)) drumlinPathsCard

/-- THE SECOND FORM's CARD OF 'drumlintop.DrumlinPaths'. -/
def drumlinPathsUptoCard : Claim7 := { stood := { row := drumlinPathsUptoRow, standIns := [], harness := (true, "dbe7d484cb0c14301605c09961acbb54bf4e5b310130b203be3000db47fc455b"), looks := false }, kinds := [], alts := [], laidByText := true, laidKinds := [.data, .data, .pinned], laidTests := true, laidLooks := .later }
def DrumlinPathsUptoCardSaid : Prop := Claim7.holds Tryd.pinned (.plain (OpenSpec.upto drumlinPathsSpec)) drumlinPathsUptoCard
end Rows
end Go.Proofs.YtcpbffmffoneeaaDoor
