/-
  DERIVED. GIVEN WITH THE SEED: THE CARDS: each row of YtkhjahpkbjafaaaGreatDoorRows.lean that lists a variable, with what it lists TIED to the program's text (the seventh form; the later family's looks); each row that meets fmt, with fmt's text TOLD by the authors' own Lean function (tested against real Go, not proved from fmt's source: count such statements apart). THE CARD IS WHAT COUNTS. Prove the row's statement (the work); the ties are given (YtkhjahpkbjafaaaGreatDoorTie.lean); close each card by the builder's one call (the guide's Derived/Test/ToyasCard.lean, 'card_holds'). Laid BY PROGRAM, IN A SANDBOX (cutbox-door.mjs). By AI agents, Wed Nov 11 2026. No macro, syntax, notation, axiom, sorry.
-/
import Derived.Test.YtkhjahpkbjafaaaGreatDoorRows
import GoSem.ClaimSeven
namespace Go.Proofs.YtkhjahpkbjafaaaGreatDoor
namespace Rows

/-- THE TIED CARD OF 'dragomanlaw8.JreadNests'. -/
def jreadNestsCard : Claim7 := { stood := { row := jreadNestsRow, standIns := [], harness := (true, "1601e1d41e6ed59972285ee5233f165b3728f97ec08d6234e4a3003c3fc0f79f"), looks := true }, kinds := [], alts := [], laidByText := true, laidKinds := [.data, .data, .data, .data, .sentinel, .sentinel, .pinned], laidTests := true, laidLooks := .later }
def JreadNestsCardSaid : Prop := Claim7.holds Tryz.pinned (.plain (OpenSpec.ofChange jreadNestsSpec)) jreadNestsCard

/-- THE TIED CARD OF 'dragomanlaw8.JreadOrder'. -/
def jreadOrderCard : Claim7 := { stood := { row := jreadOrderRow, standIns := [], harness := (true, "1601e1d41e6ed59972285ee5233f165b3728f97ec08d6234e4a3003c3fc0f79f"), looks := true }, kinds := [], alts := [], laidByText := true, laidKinds := [.data, .data, .data, .data, .sentinel, .sentinel, .pinned], laidTests := true, laidLooks := .later }
def JreadOrderCardSaid : Prop := Claim7.holds Tryz.pinned (.plain (OpenSpec.ofChange jreadOrderSpec)) jreadOrderCard

/-- THE TIED CARD OF 'dragomanlaw8.JreadCuts'. -/
def jreadCutsCard : Claim7 := { stood := { row := jreadCutsRow, standIns := [], harness := (true, "1601e1d41e6ed59972285ee5233f165b3728f97ec08d6234e4a3003c3fc0f79f"), looks := true }, kinds := [], alts := [], laidByText := true, laidKinds := [.data, .data, .data, .data, .sentinel, .sentinel, .pinned], laidTests := true, laidLooks := .later }
def JreadCutsCardSaid : Prop := Claim7.holds Tryz.pinned (.plain (OpenSpec.ofChange jreadCutsSpec)) jreadCutsCard

/-- THE TIED CARD OF 'dragomanlaw8.JreadTwice'. -/
def jreadTwiceCard : Claim7 := { stood := { row := jreadTwiceRow, standIns := [], harness := (true, "1601e1d41e6ed59972285ee5233f165b3728f97ec08d6234e4a3003c3fc0f79f"), looks := true }, kinds := [], alts := [], laidByText := true, laidKinds := [.data, .data, .data, .data, .sentinel, .sentinel, .pinned], laidTests := true, laidLooks := .later }
def JreadTwiceCardSaid : Prop := Claim7.holds Tryz.pinned (.plain (OpenSpec.ofChange jreadTwiceSpec)) jreadTwiceCard

/-- THE TIED CARD OF 'dragomanlaw9.JprintKnown'. -/
def jprintKnownCard : Claim7 := { stood := { row := jprintKnownRow, standIns := [], harness := (true, "1601e1d41e6ed59972285ee5233f165b3728f97ec08d6234e4a3003c3fc0f79f"), looks := true }, kinds := [], alts := [], laidByText := true, laidKinds := [.data, .data, .data, .data, .sentinel, .sentinel, .pinned], laidTests := true, laidLooks := .later }
def JprintKnownCardSaid : Prop := Claim7.holds Tryz.pinned (.plain (OpenSpec.ofChange jprintKnownSpec)) jprintKnownCard

/-- THE TIED CARD OF 'dragomanlaw9.JprintSays'. -/
def jprintSaysCard : Claim7 := { stood := { row := jprintSaysRow, standIns := [], harness := (true, "1601e1d41e6ed59972285ee5233f165b3728f97ec08d6234e4a3003c3fc0f79f"), looks := true }, kinds := [], alts := [], laidByText := true, laidKinds := [.data, .data, .data, .data, .sentinel, .sentinel, .pinned], laidTests := true, laidLooks := .later }
def JprintSaysCardSaid : Prop := Claim7.holds Tryz.pinned (.plain (OpenSpec.ofChange jprintSaysSpec)) jprintSaysCard

/-- THE TIED CARD OF 'dragomanlaw9.JprintBack'. -/
def jprintBackCard : Claim7 := { stood := { row := jprintBackRow, standIns := [], harness := (true, "1601e1d41e6ed59972285ee5233f165b3728f97ec08d6234e4a3003c3fc0f79f"), looks := true }, kinds := [], alts := [], laidByText := true, laidKinds := [.data, .data, .data, .data, .sentinel, .sentinel, .pinned], laidTests := true, laidLooks := .later }
def JprintBackCardSaid : Prop := Claim7.holds Tryz.pinned (.plain (OpenSpec.ofChange jprintBackSpec)) jprintBackCard

/-- THE TIED CARD OF 'dragomanlaw9.JprintOne'. -/
def jprintOneCard : Claim7 := { stood := { row := jprintOneRow, standIns := [], harness := (true, "1601e1d41e6ed59972285ee5233f165b3728f97ec08d6234e4a3003c3fc0f79f"), looks := true }, kinds := [], alts := [], laidByText := true, laidKinds := [.data, .data, .data, .data, .sentinel, .sentinel, .pinned], laidTests := true, laidLooks := .later }
def JprintOneCardSaid : Prop := Claim7.holds Tryz.pinned (.plain (OpenSpec.ofChange jprintOneSpec)) jprintOneCard

/-- THE TIED CARD OF 'dragomanlaw9.JprintApart'. -/
def jprintApartCard : Claim7 := { stood := { row := jprintApartRow, standIns := [], harness := (true, "1601e1d41e6ed59972285ee5233f165b3728f97ec08d6234e4a3003c3fc0f79f"), looks := true }, kinds := [], alts := [], laidByText := true, laidKinds := [.data, .data, .data, .data, .sentinel, .sentinel, .pinned], laidTests := true, laidLooks := .later }
def JprintApartCardSaid : Prop := Claim7.holds Tryz.pinned (.plain (OpenSpec.ofChange jprintApartSpec)) jprintApartCard

/-- THE TIED CARD OF 'dragomanlaw9.JprintPlain'. -/
def jprintPlainCard : Claim7 := { stood := { row := jprintPlainRow, standIns := [], harness := (true, "1601e1d41e6ed59972285ee5233f165b3728f97ec08d6234e4a3003c3fc0f79f"), looks := true }, kinds := [], alts := [], laidByText := true, laidKinds := [.data, .data, .data, .data, .sentinel, .sentinel, .pinned], laidTests := true, laidLooks := .later }
def JprintPlainCardSaid : Prop := Claim7.holds Tryz.pinned (.plain (OpenSpec.ofChange jprintPlainSpec)) jprintPlainCard

/-- THE TIED CARD OF 'dragomanlaw9.JprintLines'. -/
def jprintLinesCard : Claim7 := { stood := { row := jprintLinesRow, standIns := [], harness := (true, "1601e1d41e6ed59972285ee5233f165b3728f97ec08d6234e4a3003c3fc0f79f"), looks := true }, kinds := [], alts := [], laidByText := true, laidKinds := [.data, .data, .data, .data, .sentinel, .sentinel, .pinned], laidTests := true, laidLooks := .later }
def JprintLinesCardSaid : Prop := Claim7.holds Tryz.pinned (.plain (OpenSpec.ofChange jprintLinesSpec)) jprintLinesCard

/-- THE SECOND FORM's CARD OF 'dragomanlaw8.JreadNests'. -/
def jreadNestsUptoCard : Claim7 := { stood := { row := jreadNestsUptoRow, standIns := [], harness := (true, "1601e1d41e6ed59972285ee5233f165b3728f97ec08d6234e4a3003c3fc0f79f"), looks := true }, kinds := [], alts := [], laidByText := true, laidKinds := [.data, .data, .data, .data, .sentinel, .sentinel, .pinned], laidTests := true, laidLooks := .later }
def JreadNestsUptoCardSaid : Prop := Claim7.holds Tryz.pinned (.plain (OpenSpec.upto jreadNestsSpec)) jreadNestsUptoCard

/-- THE SECOND FORM's CARD OF 'dragomanlaw8.JreadOrder'. -/
def jreadOrderUptoCard : Claim7 := { stood := { row := jreadOrderUptoRow, standIns := [], harness := (true, "1601e1d41e6ed59972285ee5233f165b3728f97ec08d6234e4a3003c3fc0f79f"), looks := true }, kinds := [], alts := [], laidByText := true, laidKinds := [.data, .data, .data, .data, .sentinel, .sentinel, .pinned], laidTests := true, laidLooks := .later }
def JreadOrderUptoCardSaid : Prop := Claim7.holds Tryz.pinned (.plain (OpenSpec.upto jreadOrderSpec)) jreadOrderUptoCard

/-- THE SECOND FORM's CARD OF 'dragomanlaw8.JreadCuts'. -/
def jreadCutsUptoCard : Claim7 := { stood := { row := jreadCutsUptoRow, standIns := [], harness := (true, "1601e1d41e6ed59972285ee5233f165b3728f97ec08d6234e4a3003c3fc0f79f"), looks := true }, kinds := [], alts := [], laidByText := true, laidKinds := [.data, .data, .data, .data, .sentinel, .sentinel, .pinned], laidTests := true, laidLooks := .later }
def JreadCutsUptoCardSaid : Prop := Claim7.holds Tryz.pinned (.plain (OpenSpec.upto jreadCutsSpec)) jreadCutsUptoCard

/-- THE SECOND FORM's CARD OF 'dragomanlaw8.JreadTwice'. -/
def jreadTwiceUptoCard : Claim7 := { stood := { row := jreadTwiceUptoRow, standIns := [], harness := (true, "1601e1d41e6ed59972285ee5233f165b3728f97ec08d6234e4a3003c3fc0f79f"), looks := true }, kinds := [], alts := [], laidByText := true, laidKinds := [.data, .data, .data, .data, .sentinel, .sentinel, .pinned], laidTests := true, laidLooks := .later }
def JreadTwiceUptoCardSaid : Prop := Claim7.holds Tryz.pinned (.plain (OpenSpec.upto jreadTwiceSpec)) jreadTwiceUptoCard

/-- THE SECOND FORM's CARD OF 'dragomanlaw9.JprintKnown'. -/
def jprintKnownUptoCard : Claim7 := { stood := { row := jprintKnownUptoRow, standIns := [], harness := (true, "1601e1d41e6ed59972285ee5233f165b3728f97ec08d6234e4a3003c3fc0f79f"), looks := true }, kinds := [], alts := [], laidByText := true, laidKinds := [.data, .data, .data, .data, .sentinel, .sentinel, .pinned], laidTests := true, laidLooks := .later }
def JprintKnownUptoCardSaid : Prop := Claim7.holds Tryz.pinned (.plain (OpenSpec.upto jprintKnownSpec)) jprintKnownUptoCard

/-- THE SECOND FORM's CARD OF 'dragomanlaw9.JprintSays'. -/
def jprintSaysUptoCard : Claim7 := { stood := { row := jprintSaysUptoRow, standIns := [], harness := (true, "1601e1d41e6ed59972285ee5233f165b3728f97ec08d6234e4a3003c3fc0f79f"), looks := true }, kinds := [], alts := [], laidByText := true, laidKinds := [.data, .data, .data, .data, .sentinel, .sentinel, .pinned], laidTests := true, laidLooks := .later }
def JprintSaysUptoCardSaid : Prop := Claim7.holds Tryz.pinned (.plain (OpenSpec.upto jprintSaysSpec)) jprintSaysUptoCard

/-- THE SECOND FORM's CARD OF 'dragomanlaw9.JprintBack'. -/
def jprintBackUptoCard : Claim7 := { stood := { row := jprintBackUptoRow, standIns := [], harness := (true, "1601e1d41e6ed59972285ee5233f165b3728f97ec08d6234e4a3003c3fc0f79f"), looks := true }, kinds := [], alts := [], laidByText := true, laidKinds := [.data, .data, .data, .data, .sentinel, .sentinel, .pinned], laidTests := true, laidLooks := .later }
def JprintBackUptoCardSaid : Prop := Claim7.holds Tryz.pinned (.plain (OpenSpec.upto jprintBackSpec)) jprintBackUptoCard

/-- THE SECOND FORM's CARD OF 'dragomanlaw9.JprintOne'. -/
def jprintOneUptoCard : Claim7 := { stood := { row := jprintOneUptoRow, standIns := [], harness := (true, "1601e1d41e6ed59972285ee5233f165b3728f97ec08d6234e4a3003c3fc0f79f"), looks := true }, kinds := [], alts := [], laidByText := true, laidKinds := [.data, .data, .data, .data, .sentinel, .sentinel, .pinned], laidTests := true, laidLooks := .later }
def JprintOneUptoCardSaid : Prop := Claim7.holds Tryz.pinned (.plain (OpenSpec.upto jprintOneSpec)) jprintOneUptoCard

/-- THE SECOND FORM's CARD OF 'dragomanlaw9.JprintApart'. -/
def jprintApartUptoCard : Claim7 := { stood := { row := jprintApartUptoRow, standIns := [], harness := (true, "1601e1d41e6ed59972285ee5233f165b3728f97ec08d6234e4a3003c3fc0f79f"), looks := true }, kinds := [], alts := [], laidByText := true, laidKinds := [.data, .data, .data, .data, .sentinel, .sentinel, .pinned], laidTests := true, laidLooks := .later }
def JprintApartUptoCardSaid : Prop := Claim7.holds Tryz.pinned (.plain (OpenSpec.upto jprintApartSpec)) jprintApartUptoCard

/-- THE SECOND FORM's CARD OF 'dragomanlaw9.JprintPlain'. -/
def jprintPlainUptoCard : Claim7 := { stood := { row := jprintPlainUptoRow, standIns := [], harness := (true, "1601e1d41e6ed59972285ee5233f165b3728f97ec08d6234e4a3003c3fc0f79f"), looks := true }, kinds := [], alts := [], laidByText := true, laidKinds := [.data, .data, .data, .data, .sentinel, .sentinel, .pinned], laidTests := true, laidLooks := .later }
def JprintPlainUptoCardSaid : Prop := Claim7.holds Tryz.pinned (.plain (OpenSpec.upto jprintPlainSpec)) jprintPlainUptoCard

/-- THE SECOND FORM's CARD OF 'dragomanlaw9.JprintLines'. -/
def jprintLinesUptoCard : Claim7 := { stood := { row := jprintLinesUptoRow, standIns := [], harness := (true, "1601e1d41e6ed59972285ee5233f165b3728f97ec08d6234e4a3003c3fc0f79f"), looks := true }, kinds := [], alts := [], laidByText := true, laidKinds := [.data, .data, .data, .data, .sentinel, .sentinel, .pinned], laidTests := true, laidLooks := .later }
def JprintLinesUptoCardSaid : Prop := Claim7.holds Tryz.pinned (.plain (OpenSpec.upto jprintLinesSpec)) jprintLinesUptoCard
end Rows
end Go.Proofs.YtkhjahpkbjafaaaGreatDoor
