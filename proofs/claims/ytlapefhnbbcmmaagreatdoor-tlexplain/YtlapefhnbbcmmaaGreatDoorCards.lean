/-
  DERIVED. GIVEN WITH THE SEED: THE CARDS: each row of YtlapefhnbbcmmaaGreatDoorRows.lean that lists a variable, with what it lists TIED to the program's text (the seventh form; the later family's looks); each row that meets fmt, with fmt's text TOLD by the authors' own Lean function (tested against real Go, not proved from fmt's source: count such statements apart). THE CARD IS WHAT COUNTS. Prove the row's statement (the work); the ties are given (YtlapefhnbbcmmaaGreatDoorTie.lean); close each card by the builder's one call (the guide's Derived/Test/ToyasCard.lean, 'card_holds'). Laid BY PROGRAM, IN A SANDBOX (cutbox-door.mjs). By AI agents, Wed Nov 11 2026. No macro, syntax, notation, axiom, sorry.
-/
import Derived.Test.YtlapefhnbbcmmaaGreatDoorRows
import GoSem.ClaimSeven
namespace Go.Proofs.YtlapefhnbbcmmaaGreatDoor
namespace Rows

/-- THE TIED CARD OF 'dragomanlaw10.TlexKnown'. -/
def tlexKnownCard : Claim7 := { stood := { row := tlexKnownRow, standIns := [], harness := (true, "bdef1018e8ff5b94db60bf318922f604ae3e27b7628ead54f911551df86f3142"), looks := true }, kinds := [], alts := [], laidByText := true, laidKinds := [.data, .data, .data, .data, .sentinel, .sentinel, .data, .pinned], laidTests := true, laidLooks := .later }
def TlexKnownCardSaid : Prop := Claim7.holds Tryz.pinned (.plain (OpenSpec.ofChange tlexKnownSpec)) tlexKnownCard

/-- THE TIED CARD OF 'dragomanlaw10.TlexPlain'. -/
def tlexPlainCard : Claim7 := { stood := { row := tlexPlainRow, standIns := [], harness := (true, "bdef1018e8ff5b94db60bf318922f604ae3e27b7628ead54f911551df86f3142"), looks := true }, kinds := [], alts := [], laidByText := true, laidKinds := [.data, .data, .data, .data, .sentinel, .sentinel, .data, .pinned], laidTests := true, laidLooks := .later }
def TlexPlainCardSaid : Prop := Claim7.holds Tryz.pinned (.plain (OpenSpec.ofChange tlexPlainSpec)) tlexPlainCard

/-- THE SECOND FORM's CARD OF 'dragomanlaw10.TlexKnown'. -/
def tlexKnownUptoCard : Claim7 := { stood := { row := tlexKnownUptoRow, standIns := [], harness := (true, "bdef1018e8ff5b94db60bf318922f604ae3e27b7628ead54f911551df86f3142"), looks := true }, kinds := [], alts := [], laidByText := true, laidKinds := [.data, .data, .data, .data, .sentinel, .sentinel, .data, .pinned], laidTests := true, laidLooks := .later }
def TlexKnownUptoCardSaid : Prop := Claim7.holds Tryz.pinned (.plain (OpenSpec.upto tlexKnownSpec)) tlexKnownUptoCard

/-- THE SECOND FORM's CARD OF 'dragomanlaw10.TlexPlain'. -/
def tlexPlainUptoCard : Claim7 := { stood := { row := tlexPlainUptoRow, standIns := [], harness := (true, "bdef1018e8ff5b94db60bf318922f604ae3e27b7628ead54f911551df86f3142"), looks := true }, kinds := [], alts := [], laidByText := true, laidKinds := [.data, .data, .data, .data, .sentinel, .sentinel, .data, .pinned], laidTests := true, laidLooks := .later }
def TlexPlainUptoCardSaid : Prop := Claim7.holds Tryz.pinned (.plain (OpenSpec.upto tlexPlainSpec)) tlexPlainUptoCard
end Rows
end Go.Proofs.YtlapefhnbbcmmaaGreatDoor
