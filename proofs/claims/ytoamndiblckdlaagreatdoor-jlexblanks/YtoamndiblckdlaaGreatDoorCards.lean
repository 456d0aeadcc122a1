/-
  DERIVED. GIVEN WITH THE SEED: THE CARDS: each row of YtoamndiblckdlaaGreatDoorRows.lean that lists a variable, with what it lists TIED to the program's text (the seventh form; the later family's looks); each row that meets fmt, with fmt's text TOLD by the authors' own Lean function (tested against real Go, not proved from fmt's source: count such statements apart). THE CARD IS WHAT COUNTS. Prove the row's statement (the work); the ties are given (YtoamndiblckdlaaGreatDoorTie.lean); close each card by the builder's one call (the guide's Derived/Test/ToyasCard.lean, 'card_holds'). Laid BY PROGRAM, IN A SANDBOX (cutbox-door.mjs). By AI agents, Wed Nov 11 2026. No macro, syntax, notation, axiom, sorry.
-/
import Derived.Test.YtoamndiblckdlaaGreatDoorRows
import GoSem.ClaimSeven
namespace Go.Proofs.YtoamndiblckdlaaGreatDoor
namespace Rows

/-- THE TIED CARD OF 'dragomanlaw7.JlexKnown'. -/
def jlexKnownCard : Claim7 := { stood := { row := jlexKnownRow, standIns := [], harness := (true, "0d278f93845ee547520d37f63917a60b5e3682fd788b67e253391d3311078a8f"), looks := false }, kinds := [], alts := [], laidByText := true, laidKinds := [.data, .pinned], laidTests := true, laidLooks := .later }
def JlexKnownCardSaid : Prop := Claim7.holds Tryz.pinned (.plain (OpenSpec.ofChange jlexKnownSpec)) jlexKnownCard

/-- THE TIED CARD OF 'dragomanlaw7.JlexCuts'. -/
def jlexCutsCard : Claim7 := { stood := { row := jlexCutsRow, standIns := [], harness := (true, "0d278f93845ee547520d37f63917a60b5e3682fd788b67e253391d3311078a8f"), looks := false }, kinds := [], alts := [], laidByText := true, laidKinds := [.data, .pinned], laidTests := true, laidLooks := .later }
def JlexCutsCardSaid : Prop := Claim7.holds Tryz.pinned (.plain (OpenSpec.ofChange jlexCutsSpec)) jlexCutsCard

/-- THE TIED CARD OF 'dragomanlaw7.JlexBlanks'. -/
def jlexBlanksCard : Claim7 := { stood := { row := jlexBlanksRow, standIns := [], harness := (true, "0d278f93845ee547520d37f63917a60b5e3682fd788b67e253391d3311078a8f"), looks := false }, kinds := [], alts := [], laidByText := true, laidKinds := [.data, .pinned], laidTests := true, laidLooks := .later }
def JlexBlanksCardSaid : Prop := Claim7.holds Tryz.pinned (.plain (OpenSpec.ofChange jlexBlanksSpec)) jlexBlanksCard

/-- THE TIED CARD OF 'dragomanlaw7.JlexPlaces'. -/
def jlexPlacesCard : Claim7 := { stood := { row := jlexPlacesRow, standIns := [], harness := (true, "0d278f93845ee547520d37f63917a60b5e3682fd788b67e253391d3311078a8f"), looks := false }, kinds := [], alts := [], laidByText := true, laidKinds := [.data, .pinned], laidTests := true, laidLooks := .later }
def JlexPlacesCardSaid : Prop := Claim7.holds Tryz.pinned (.plain (OpenSpec.ofChange jlexPlacesSpec)) jlexPlacesCard

/-- THE TIED CARD OF 'dragomanlaw7.JlexNumbers'. -/
def jlexNumbersCard : Claim7 := { stood := { row := jlexNumbersRow, standIns := [], harness := (true, "0d278f93845ee547520d37f63917a60b5e3682fd788b67e253391d3311078a8f"), looks := false }, kinds := [], alts := [], laidByText := true, laidKinds := [.data, .pinned], laidTests := true, laidLooks := .later }
def JlexNumbersCardSaid : Prop := Claim7.holds Tryz.pinned (.plain (OpenSpec.ofChange jlexNumbersSpec)) jlexNumbersCard

/-- THE SECOND FORM's CARD OF 'dragomanlaw7.JlexKnown'. -/
def jlexKnownUptoCard : Claim7 := { stood := { row := jlexKnownUptoRow, standIns := [], harness := (true, "0d278f93845ee547520d37f63917a60b5e3682fd788b67e253391d3311078a8f"), looks := false }, kinds := [], alts := [], laidByText := true, laidKinds := [.data, .pinned], laidTests := true, laidLooks := .later }
def JlexKnownUptoCardSaid : Prop := Claim7.holds Tryz.pinned (.plain (OpenSpec.upto jlexKnownSpec)) jlexKnownUptoCard

/-- THE SECOND FORM's CARD OF 'dragomanlaw7.JlexCuts'. -/
def jlexCutsUptoCard : Claim7 := { stood := { row := jlexCutsUptoRow, standIns := [], harness := (true, "0d278f93845ee547520d37f63917a60b5e3682fd788b67e253391d3311078a8f"), looks := false }, kinds := [], alts := [], laidByText := true, laidKinds := [.data, .pinned], laidTests := true, laidLooks := .later }
def JlexCutsUptoCardSaid : Prop := Claim7.holds Tryz.pinned (.plain (OpenSpec.upto jlexCutsSpec)) jlexCutsUptoCard

/-- THE SECOND FORM's CARD OF 'dragomanlaw7.JlexBlanks'. -/
def jlexBlanksUptoCard : Claim7 := { stood := { row := jlexBlanksUptoRow, standIns := [], harness := (true, "0d278f93845ee547520d37f63917a60b5e3682fd788b67e253391d3311078a8f"), looks := false }, kinds := [], alts := [], laidByText := true, laidKinds := [.data, .pinned], laidTests := true, laidLooks := .later }
def JlexBlanksUptoCardSaid : Prop := Claim7.holds Tryz.pinned (.plain (OpenSpec.upto jlexBlanksSpec)) jlexBlanksUptoCard

/-- THE SECOND FORM's CARD OF 'dragomanlaw7.JlexPlaces'. -/
def jlexPlacesUptoCard : Claim7 := { stood := { row := jlexPlacesUptoRow, standIns := [], harness := (true, "0d278f93845ee547520d37f63917a60b5e3682fd788b67e253391d3311078a8f"), looks := false }, kinds := [], alts := [], laidByText := true, laidKinds := [.data, .pinned], laidTests := true, laidLooks := .later }
def JlexPlacesUptoCardSaid : Prop := Claim7.holds Tryz.pinned (.plain (OpenSpec.upto jlexPlacesSpec)) jlexPlacesUptoCard

/-- THE SECOND FORM's CARD OF 'dragomanlaw7.JlexNumbers'. -/
def jlexNumbersUptoCard : Claim7 := { stood := { row := jlexNumbersUptoRow, standIns := [], harness := (true, "0d278f93845ee547520d37f63917a60b5e3682fd788b67e253391d3311078a8f"), looks := false }, kinds := [], alts := [], laidByText := true, laidKinds := [.data, .pinned], laidTests := true, laidLooks := .later }
def JlexNumbersUptoCardSaid : Prop := Claim7.holds Tryz.pinned (.plain (OpenSpec.upto jlexNumbersSpec)) jlexNumbersUptoCard
end Rows
end Go.Proofs.YtoamndiblckdlaaGreatDoor
