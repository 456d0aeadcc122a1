/-
  DERIVED. GIVEN WITH THE SEED: THE CARDS: each row of YtiaepihdfbahaaaGreatDoorRows.lean that lists a variable, with what it lists TIED to the program's text (the seventh form; the later family's looks); each row that meets fmt, with fmt's text TOLD by the authors' own Lean function (tested against real Go, not proved from fmt's source: count such statements apart). THE CARD IS WHAT COUNTS. Prove the row's statement (the work); the ties are given (YtiaepihdfbahaaaGreatDoorTie.lean); close each card by the builder's one call (the guide's Derived/Test/ToyasCard.lean, 'card_holds'). Laid BY PROGRAM, IN A SANDBOX (cutbox-door.mjs). By AI agents, Wed Nov 11 2026. No macro, syntax, notation, axiom, sorry.
-/
import Derived.Test.YtiaepihdfbahaaaGreatDoorRows
import GoSem.ClaimSeven
namespace Go.Proofs.YtiaepihdfbahaaaGreatDoor
namespace Rows

/-- THE TIED CARD OF 'dragomanlaw12.TprintKnown'. -/
def tprintKnownCard : Claim7 := { stood := { row := tprintKnownRow, standIns := [], harness := (true, "b41dc64f5bf6a7ce8489bc7fd35444602eeaf0be59516a268c7a7e9f29f30cae"), looks := true }, kinds := [], alts := [], laidByText := true, laidKinds := [.data, .data, .data, .data, .sentinel, .sentinel, .data, .pinned], laidTests := true, laidLooks := .later }
def TprintKnownCardSaid : Prop := Claim7.holds Tryz.pinned (.plain (OpenSpec.ofChange tprintKnownSpec)) tprintKnownCard

/-- THE TIED CARD OF 'dragomanlaw12.TprintSays'. -/
def tprintSaysCard : Claim7 := { stood := { row := tprintSaysRow, standIns := [], harness := (true, "b41dc64f5bf6a7ce8489bc7fd35444602eeaf0be59516a268c7a7e9f29f30cae"), looks := true }, kinds := [], alts := [], laidByText := true, laidKinds := [.data, .data, .data, .data, .sentinel, .sentinel, .data, .pinned], laidTests := true, laidLooks := .later }
def TprintSaysCardSaid : Prop := Claim7.holds Tryz.pinned (.plain (OpenSpec.ofChange tprintSaysSpec)) tprintSaysCard

/-- THE SECOND FORM's CARD OF 'dragomanlaw12.TprintKnown'. -/
def tprintKnownUptoCard : Claim7 := { stood := { row := tprintKnownUptoRow, standIns := [], harness := (true, "b41dc64f5bf6a7ce8489bc7fd35444602eeaf0be59516a268c7a7e9f29f30cae"), looks := true }, kinds := [], alts := [], laidByText := true, laidKinds := [.data, .data, .data, .data, .sentinel, .sentinel, .data, .pinned], laidTests := true, laidLooks := .later }
def TprintKnownUptoCardSaid : Prop := Claim7.holds Tryz.pinned (.plain (OpenSpec.upto tprintKnownSpec)) tprintKnownUptoCard

/-- THE SECOND FORM's CARD OF 'dragomanlaw12.TprintSays'. -/
def tprintSaysUptoCard : Claim7 := { stood := { row := tprintSaysUptoRow, standIns := [], harness := (true, "b41dc64f5bf6a7ce8489bc7fd35444602eeaf0be59516a268c7a7e9f29f30cae"), looks := true }, kinds := [], alts := [], laidByText := true, laidKinds := [.data, .data, .data, .data, .sentinel, .sentinel, .data, .pinned], laidTests := true, laidLooks := .later }
def TprintSaysUptoCardSaid : Prop := Claim7.holds Tryz.pinned (.plain (OpenSpec.upto tprintSaysSpec)) tprintSaysUptoCard
end Rows
end Go.Proofs.YtiaepihdfbahaaaGreatDoor
