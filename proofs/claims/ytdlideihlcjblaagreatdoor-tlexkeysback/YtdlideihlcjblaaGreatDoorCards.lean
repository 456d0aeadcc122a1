/-
  DERIVED. GIVEN WITH THE SEED: THE CARDS: each row of YtdlideihlcjblaaGreatDoorRows.lean that lists a variable, with what it lists TIED to the program's text (the seventh form; the later family's looks); each row that meets fmt, with fmt's text TOLD by the authors' own Lean function (tested against real Go, not proved from fmt's source: count such statements apart). THE CARD IS WHAT COUNTS. Prove the row's statement (the work); the ties are given (YtdlideihlcjblaaGreatDoorTie.lean); close each card by the builder's one call (the guide's Derived/Test/ToyasCard.lean, 'card_holds'). Laid BY PROGRAM, IN A SANDBOX (cutbox-door.mjs). By AI agents, Wed Nov 11 2026. No macro, syntax, notation, axiom, sorry.
-/
import Derived.Test.YtdlideihlcjblaaGreatDoorRows
import GoSem.ClaimSeven
namespace Go.Proofs.YtdlideihlcjblaaGreatDoor
namespace Rows

/-- THE TIED CARD OF 'dragomanlaw10.TlexKnown'. -/
def tlexKnownCard : Claim7 := { stood := { row := tlexKnownRow, standIns := [], harness := (true, "13583b9d39ff0e16c3145ac82d3ad80d2ecde7e2b9c3f23b866bf87146ebca35"), looks := true }, kinds := [], alts := [], laidByText := true, laidKinds := [.data, .data, .data, .data, .sentinel, .sentinel, .data, .pinned], laidTests := true, laidLooks := .later }
def TlexKnownCardSaid : Prop := Claim7.holds Tryz.pinned (.plain (OpenSpec.ofChange tlexKnownSpec)) tlexKnownCard

/-- THE TIED CARD OF 'dragomanlaw10.TlexKeys'. -/
def tlexKeysCard : Claim7 := { stood := { row := tlexKeysRow, standIns := [], harness := (true, "13583b9d39ff0e16c3145ac82d3ad80d2ecde7e2b9c3f23b866bf87146ebca35"), looks := true }, kinds := [], alts := [], laidByText := true, laidKinds := [.data, .data, .data, .data, .sentinel, .sentinel, .data, .pinned], laidTests := true, laidLooks := .later }
def TlexKeysCardSaid : Prop := Claim7.holds Tryz.pinned (.plain (OpenSpec.ofChange tlexKeysSpec)) tlexKeysCard

/-- THE TIED CARD OF 'dragomanlaw10.TlexPlain'. -/
def tlexPlainCard : Claim7 := { stood := { row := tlexPlainRow, standIns := [], harness := (true, "13583b9d39ff0e16c3145ac82d3ad80d2ecde7e2b9c3f23b866bf87146ebca35"), looks := true }, kinds := [], alts := [], laidByText := true, laidKinds := [.data, .data, .data, .data, .sentinel, .sentinel, .data, .pinned], laidTests := true, laidLooks := .later }
def TlexPlainCardSaid : Prop := Claim7.holds Tryz.pinned (.plain (OpenSpec.ofChange tlexPlainSpec)) tlexPlainCard

/-- THE TIED CARD OF 'dragomanlaw10.TlexInts'. -/
def tlexIntsCard : Claim7 := { stood := { row := tlexIntsRow, standIns := [], harness := (true, "13583b9d39ff0e16c3145ac82d3ad80d2ecde7e2b9c3f23b866bf87146ebca35"), looks := true }, kinds := [], alts := [], laidByText := true, laidKinds := [.data, .data, .data, .data, .sentinel, .sentinel, .data, .pinned], laidTests := true, laidLooks := .later }
def TlexIntsCardSaid : Prop := Claim7.holds Tryz.pinned (.plain (OpenSpec.ofChange tlexIntsSpec)) tlexIntsCard

/-- THE TIED CARD OF 'dragomanlaw10.TlexStamps'. -/
def tlexStampsCard : Claim7 := { stood := { row := tlexStampsRow, standIns := [], harness := (true, "13583b9d39ff0e16c3145ac82d3ad80d2ecde7e2b9c3f23b866bf87146ebca35"), looks := true }, kinds := [], alts := [], laidByText := true, laidKinds := [.data, .data, .data, .data, .sentinel, .sentinel, .data, .pinned], laidTests := true, laidLooks := .later }
def TlexStampsCardSaid : Prop := Claim7.holds Tryz.pinned (.plain (OpenSpec.ofChange tlexStampsSpec)) tlexStampsCard

/-- THE TIED CARD OF 'dragomanlaw10.TlexFloats'. -/
def tlexFloatsCard : Claim7 := { stood := { row := tlexFloatsRow, standIns := [], harness := (true, "13583b9d39ff0e16c3145ac82d3ad80d2ecde7e2b9c3f23b866bf87146ebca35"), looks := true }, kinds := [], alts := [], laidByText := true, laidKinds := [.data, .data, .data, .data, .sentinel, .sentinel, .data, .pinned], laidTests := true, laidLooks := .later }
def TlexFloatsCardSaid : Prop := Claim7.holds Tryz.pinned (.plain (OpenSpec.ofChange tlexFloatsSpec)) tlexFloatsCard

/-- THE TIED CARD OF 'dragomanlaw10.TlexKeysBack'. -/
def tlexKeysBackCard : Claim7 := { stood := { row := tlexKeysBackRow, standIns := [], harness := (true, "13583b9d39ff0e16c3145ac82d3ad80d2ecde7e2b9c3f23b866bf87146ebca35"), looks := true }, kinds := [], alts := [], laidByText := true, laidKinds := [.data, .data, .data, .data, .sentinel, .sentinel, .data, .pinned], laidTests := true, laidLooks := .later }
def TlexKeysBackCardSaid : Prop := Claim7.holds Tryz.pinned (.plain (OpenSpec.ofChange tlexKeysBackSpec)) tlexKeysBackCard

/-- THE SECOND FORM's CARD OF 'dragomanlaw10.TlexKnown'. -/
def tlexKnownUptoCard : Claim7 := { stood := { row := tlexKnownUptoRow, standIns := [], harness := (true, "13583b9d39ff0e16c3145ac82d3ad80d2ecde7e2b9c3f23b866bf87146ebca35"), looks := true }, kinds := [], alts := [], laidByText := true, laidKinds := [.data, .data, .data, .data, .sentinel, .sentinel, .data, .pinned], laidTests := true, laidLooks := .later }
def TlexKnownUptoCardSaid : Prop := Claim7.holds Tryz.pinned (.plain (OpenSpec.upto tlexKnownSpec)) tlexKnownUptoCard

/-- THE SECOND FORM's CARD OF 'dragomanlaw10.TlexKeys'. -/
def tlexKeysUptoCard : Claim7 := { stood := { row := tlexKeysUptoRow, standIns := [], harness := (true, "13583b9d39ff0e16c3145ac82d3ad80d2ecde7e2b9c3f23b866bf87146ebca35"), looks := true }, kinds := [], alts := [], laidByText := true, laidKinds := [.data, .data, .data, .data, .sentinel, .sentinel, .data, .pinned], laidTests := true, laidLooks := .later }
def TlexKeysUptoCardSaid : Prop := Claim7.holds Tryz.pinned (.plain (OpenSpec.upto tlexKeysSpec)) tlexKeysUptoCard

/-- THE SECOND FORM's CARD OF 'dragomanlaw10.TlexPlain'. -/
def tlexPlainUptoCard : Claim7 := { stood := { row := tlexPlainUptoRow, standIns := [], harness := (true, "13583b9d39ff0e16c3145ac82d3ad80d2ecde7e2b9c3f23b866bf87146ebca35"), looks := true }, kinds := [], alts := [], laidByText := true, laidKinds := [.data, .data, .data, .data, .sentinel, .sentinel, .data, .pinned], laidTests := true, laidLooks := .later }
def TlexPlainUptoCardSaid : Prop := Claim7.holds Tryz.pinned (.plain (OpenSpec.upto tlexPlainSpec)) tlexPlainUptoCard

/-- THE SECOND FORM's CARD OF 'dragomanlaw10.TlexInts'. -/
def tlexIntsUptoCard : Claim7 := { stood := { row := tlexIntsUptoRow, standIns := [], harness := (true, "13583b9d39ff0e16c3145ac82d3ad80d2ecde7e2b9c3f23b866bf87146ebca35"), looks := true }, kinds := [], alts := [], laidByText := true, laidKinds := [.data, .data, .data, .data, .sentinel, .sentinel, .data, .pinned], laidTests := true, laidLooks := .later }
def TlexIntsUptoCardSaid : Prop := Claim7.holds Tryz.pinned (.plain (OpenSpec.upto tlexIntsSpec)) tlexIntsUptoCard

/-- THE SECOND FORM's CARD OF 'dragomanlaw10.TlexStamps'. -/
def tlexStampsUptoCard : Claim7 := { stood := { row := tlexStampsUptoRow, standIns := [], harness := (true, "13583b9d39ff0e16c3145ac82d3ad80d2ecde7e2b9c3f23b866bf87146ebca35"), looks := true }, kinds := [], alts := [], laidByText := true, laidKinds := [.data, .data, .data, .data, .sentinel, .sentinel, .data, .pinned], laidTests := true, laidLooks := .later }
def TlexStampsUptoCardSaid : Prop := Claim7.holds Tryz.pinned (.plain (OpenSpec.upto tlexStampsSpec)) tlexStampsUptoCard

/-- THE SECOND FORM's CARD OF 'dragomanlaw10.TlexFloats'. -/
def tlexFloatsUptoCard : Claim7 := { stood := { row := tlexFloatsUptoRow, standIns := [], harness := (true, "13583b9d39ff0e16c3145ac82d3ad80d2ecde7e2b9c3f23b866bf87146ebca35"), looks := true }, kinds := [], alts := [], laidByText := true, laidKinds := [.data, .data, .data, .data, .sentinel, .sentinel, .data, .pinned], laidTests := true, laidLooks := .later }
def TlexFloatsUptoCardSaid : Prop := Claim7.holds Tryz.pinned (.plain (OpenSpec.upto tlexFloatsSpec)) tlexFloatsUptoCard

/-- THE SECOND FORM's CARD OF 'dragomanlaw10.TlexKeysBack'. -/
def tlexKeysBackUptoCard : Claim7 := { stood := { row := tlexKeysBackUptoRow, standIns := [], harness := (true, "13583b9d39ff0e16c3145ac82d3ad80d2ecde7e2b9c3f23b866bf87146ebca35"), looks := true }, kinds := [], alts := [], laidByText := true, laidKinds := [.data, .data, .data, .data, .sentinel, .sentinel, .data, .pinned], laidTests := true, laidLooks := .later }
def TlexKeysBackUptoCardSaid : Prop := Claim7.holds Tryz.pinned (.plain (OpenSpec.upto tlexKeysBackSpec)) tlexKeysBackUptoCard
end Rows
end Go.Proofs.YtdlideihlcjblaaGreatDoor
