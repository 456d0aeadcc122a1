/-
  DERIVED. GIVEN WITH THE SEED: THE CARDS: each row of YtmncibjkgbmfjaaDoorRows.lean that lists a variable, with what it lists TIED to the program's text (the seventh form; the later family's looks); each row that meets fmt, with fmt's text TOLD by the authors' own Lean function (tested against real Go, not proved from fmt's source: count such statements apart). THE CARD IS WHAT COUNTS. Prove the row's statement (the work); the ties are given (YtmncibjkgbmfjaaDoorTie.lean); close each card by the builder's one call (the guide's Derived/Test/ToyasCard.lean, 'card_holds'). Laid BY PROGRAM, IN A SANDBOX (cutbox-door.mjs). By AI agents, Wed Nov 11 2026. No macro, syntax, notation, axiom, sorry.
-/
import Derived.Test.YtmncibjkgbmfjaaDoorRows
import GoSem.ClaimSeven
namespace Go.Proofs.YtmncibjkgbmfjaaDoor
namespace Rows

/-- THE TIED CARD OF 'dragomanlaw15.CellKnown'. -/
def cellKnownCard : Claim7 := { stood := { row := cellKnownRow, standIns := [], harness := (true, "4ec41210d2c77de5536fa3bb1324d301da764c48780df793e824ea7886e46fd5"), looks := true }, kinds := [], alts := [], laidByText := true, laidKinds := [.data, .data, .data, .data, .sentinel, .sentinel, .pinned], laidTests := true, laidLooks := .later }
def CellKnownCardSaid : Prop := Claim7.holds Tryd.pinned (.plain (OpenSpec.ofChange cellKnownSpec)) cellKnownCard

/-- THE SECOND FORM's CARD OF 'dragomanlaw15.CellKnown'. -/
def cellKnownUptoCard : Claim7 := { stood := { row := cellKnownUptoRow, standIns := [], harness := (true, "4ec41210d2c77de5536fa3bb1324d301da764c48780df793e824ea7886e46fd5"), looks := true }, kinds := [], alts := [], laidByText := true, laidKinds := [.data, .data, .data, .data, .sentinel, .sentinel, .pinned], laidTests := true, laidLooks := .later }
def CellKnownUptoCardSaid : Prop := Claim7.holds Tryd.pinned (.plain (OpenSpec.upto cellKnownSpec)) cellKnownUptoCard
end Rows
end Go.Proofs.YtmncibjkgbmfjaaDoor
