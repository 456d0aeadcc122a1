/-
  DERIVED. GIVEN WITH THE SEED: THE CARDS: each row of YtiafcbmmadikcaaGreatDoorRows.lean that lists a variable, with what it lists TIED to the program's text (the seventh form; the later family's looks); each row that meets fmt, with fmt's text TOLD by the authors' own Lean function (tested against real Go, not proved from fmt's source: count such statements apart). THE CARD IS WHAT COUNTS. Prove the row's statement (the work); the ties are given (YtiafcbmmadikcaaGreatDoorTie.lean); close each card by the builder's one call (the guide's Derived/Test/ToyasCard.lean, 'card_holds'). Laid BY PROGRAM, IN A SANDBOX (cutbox-door.mjs). By AI agents, Wed Nov 11 2026. No macro, syntax, notation, axiom, sorry.
-/
import Derived.Test.YtiafcbmmadikcaaGreatDoorRows
import GoSem.ClaimSeven
namespace Go.Proofs.YtiafcbmmadikcaaGreatDoor
namespace Rows

/-- THE TIED CARD OF 'dragomanlaw10.TlexKnown'. -/
def tlexKnownCard : Claim7 := { stood := { row := tlexKnownRow, standIns := [], harness := (true, "27b6a870c7f8e6113a8011c89eb746b95527042335d07b1c218911b9a094276f"), looks := true }, kinds := [], alts := [], laidByText := true, laidKinds := [.data, .data, .data, .data, .sentinel, .sentinel, .data, .pinned], laidTests := true, laidLooks := .later }
def TlexKnownCardSaid : Prop := Claim7.holds Tryz.pinned (.plain (OpenSpec.ofChange tlexKnownSpec)) tlexKnownCard

/-- THE TIED CARD OF 'dragomanlaw10.TlexPlain'. -/
def tlexPlainCard : Claim7 := { stood := { row := tlexPlainRow, standIns := [], harness := (true, "27b6a870c7f8e6113a8011c89eb746b95527042335d07b1c218911b9a094276f"), looks := true }, kinds := [], alts := [], laidByText := true, laidKinds := [.data, .data, .data, .data, .sentinel, .sentinel, .data, .pinned], laidTests := true, laidLooks := .later }
def TlexPlainCardSaid : Prop := Claim7.holds Tryz.pinned (.plain (OpenSpec.ofChange tlexPlainSpec)) tlexPlainCard

/-- THE TIED CARD OF 'dragomanlaw10.TlexStamps'. -/
def tlexStampsCard : Claim7 := { stood := { row := tlexStampsRow, standIns := [], harness := (true, "27b6a870c7f8e6113a8011c89eb746b95527042335d07b1c218911b9a094276f"), looks := true }, kinds := [], alts := [], laidByText := true, laidKinds := [.data, .data, .data, .data, .sentinel, .sentinel, .data, .pinned], laidTests := true, laidLooks := .later }
def TlexStampsCardSaid : Prop := Claim7.holds Tryz.pinned (.plain (OpenSpec.ofChange tlexStampsSpec)) tlexStampsCard

/-- THE SECOND FORM's CARD OF 'dragomanlaw10.TlexKnown'. -/
def tlexKnownUptoCard : Claim7 := { stood := { row := tlexKnownUptoRow, standIns := [], harness := (true, "27b6a870c7f8e6113a8011c89eb746b95527042335d07b1c218911b9a094276f"), looks := true }, kinds := [], alts := [], laidByText := true, laidKinds := [.data, .data, .data, .data, .sentinel, .sentinel, .data, .pinned], laidTests := true, laidLooks := .later }
def TlexKnownUptoCardSaid : Prop := Claim7.holds Tryz.pinned (.plain (OpenSpec.upto tlexKnownSpec)) tlexKnownUptoCard

/-- THE SECOND FORM's CARD OF 'dragomanlaw10.TlexPlain'. -/
def tlexPlainUptoCard : Claim7 := { stood := { row := tlexPlainUptoRow, standIns := [], harness := (true, "27b6a870c7f8e6113a8011c89eb746b95527042335d07b1c218911b9a094276f"), looks := true }, kinds := [], alts := [], laidByText := true, laidKinds := [.data, .data, .data, .data, .sentinel, .sentinel, .data, .pinned], laidTests := true, laidLooks := .later }
def TlexPlainUptoCardSaid : Prop := Claim7.holds Tryz.pinned (.plain (OpenSpec.upto tlexPlainSpec)) tlexPlainUptoCard

/-- THE SECOND FORM's CARD OF 'dragomanlaw10.TlexStamps'. -/
def tlexStampsUptoCard : Claim7 := { stood := { row := tlexStampsUptoRow, standIns := [], harness := (true, "27b6a870c7f8e6113a8011c89eb746b95527042335d07b1c218911b9a094276f"), looks := true }, kinds := [], alts := [], laidByText := true, laidKinds := [.data, .data, .data, .data, .sentinel, .sentinel, .data, .pinned], laidTests := true, laidLooks := .later }
def TlexStampsUptoCardSaid : Prop := Claim7.holds Tryz.pinned (.plain (OpenSpec.upto tlexStampsSpec)) tlexStampsUptoCard
end Rows
end Go.Proofs.YtiafcbmmadikcaaGreatDoor
