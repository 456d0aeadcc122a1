/-
  DERIVED. GIVEN WITH THE SEED: THE CARDS: each row of YtadbeodeiijhdaaGreatDoorRows.lean that lists a variable, with what it lists TIED to the program's text (the seventh form; the later family's looks); each row that meets fmt, with fmt's text TOLD by the authors' own Lean function (tested against real Go, not proved from fmt's source: count such statements apart). THE CARD IS WHAT COUNTS. Prove the row's statement (the work); the ties are given (YtadbeodeiijhdaaGreatDoorTie.lean); close each card by the builder's one call (the guide's Derived/Test/ToyasCard.lean, 'card_holds'). Laid BY PROGRAM, IN A SANDBOX (cutbox-door.mjs). By AI agents, Wed Nov 11 2026. No macro, syntax, notation, axiom, sorry.
-/
import Derived.Test.YtadbeodeiijhdaaGreatDoorRows
import GoSem.ClaimSeven
namespace Go.Proofs.YtadbeodeiijhdaaGreatDoor
namespace Rows

/-- THE TIED CARD OF 'dragomanlaw16.FlatSays'. -/
def flatSaysCard : Claim7 := { stood := { row := flatSaysRow, standIns := [], harness := (true, "be87ba75494a031ca9f27b222458c51d313edcac3c308efd9be4d3f09fb3f0dd"), looks := true }, kinds := [], alts := [], laidByText := true, laidKinds := [.data, .data, .data, .data, .sentinel, .sentinel, .pinned], laidTests := true, laidLooks := .later }
def FlatSaysCardSaid : Prop := Claim7.holds Tryz.pinned (.plain (OpenSpec.ofChange flatSaysSpec)) flatSaysCard

/-- THE TIED CARD OF 'dragomanlaw17.UnflatKnown'. -/
def unflatKnownCard : Claim7 := { stood := { row := unflatKnownRow, standIns := [], harness := (true, "be87ba75494a031ca9f27b222458c51d313edcac3c308efd9be4d3f09fb3f0dd"), looks := true }, kinds := [], alts := [], laidByText := true, laidKinds := [.data, .data, .data, .data, .sentinel, .sentinel, .pinned], laidTests := true, laidLooks := .later }
def UnflatKnownCardSaid : Prop := Claim7.holds Tryz.pinned (.plain (OpenSpec.ofChange unflatKnownSpec)) unflatKnownCard

/-- THE TIED CARD OF 'dragomanlaw17.UnflatSays'. -/
def unflatSaysCard : Claim7 := { stood := { row := unflatSaysRow, standIns := [], harness := (true, "be87ba75494a031ca9f27b222458c51d313edcac3c308efd9be4d3f09fb3f0dd"), looks := true }, kinds := [], alts := [], laidByText := true, laidKinds := [.data, .data, .data, .data, .sentinel, .sentinel, .pinned], laidTests := true, laidLooks := .later }
def UnflatSaysCardSaid : Prop := Claim7.holds Tryz.pinned (.plain (OpenSpec.ofChange unflatSaysSpec)) unflatSaysCard

/-- THE TIED CARD OF 'dragomanlaw17.UnflatBuilds'. -/
def unflatBuildsCard : Claim7 := { stood := { row := unflatBuildsRow, standIns := [], harness := (true, "be87ba75494a031ca9f27b222458c51d313edcac3c308efd9be4d3f09fb3f0dd"), looks := true }, kinds := [], alts := [], laidByText := true, laidKinds := [.data, .data, .data, .data, .sentinel, .sentinel, .pinned], laidTests := true, laidLooks := .later }
def UnflatBuildsCardSaid : Prop := Claim7.holds Tryz.pinned (.plain (OpenSpec.ofChange unflatBuildsSpec)) unflatBuildsCard

/-- THE TIED CARD OF 'dragomanlaw17.UnflatBack'. -/
def unflatBackCard : Claim7 := { stood := { row := unflatBackRow, standIns := [], harness := (true, "be87ba75494a031ca9f27b222458c51d313edcac3c308efd9be4d3f09fb3f0dd"), looks := true }, kinds := [], alts := [], laidByText := true, laidKinds := [.data, .data, .data, .data, .sentinel, .sentinel, .pinned], laidTests := true, laidLooks := .later }
def UnflatBackCardSaid : Prop := Claim7.holds Tryz.pinned (.plain (OpenSpec.ofChange unflatBackSpec)) unflatBackCard

/-- THE TIED CARD OF 'dragomanlaw17.UnflatColumns'. -/
def unflatColumnsCard : Claim7 := { stood := { row := unflatColumnsRow, standIns := [], harness := (true, "be87ba75494a031ca9f27b222458c51d313edcac3c308efd9be4d3f09fb3f0dd"), looks := true }, kinds := [], alts := [], laidByText := true, laidKinds := [.data, .data, .data, .data, .sentinel, .sentinel, .pinned], laidTests := true, laidLooks := .later }
def UnflatColumnsCardSaid : Prop := Claim7.holds Tryz.pinned (.plain (OpenSpec.ofChange unflatColumnsSpec)) unflatColumnsCard

/-- THE TIED CARD OF 'dragomanlaw17.UnflatGaps'. -/
def unflatGapsCard : Claim7 := { stood := { row := unflatGapsRow, standIns := [], harness := (true, "be87ba75494a031ca9f27b222458c51d313edcac3c308efd9be4d3f09fb3f0dd"), looks := true }, kinds := [], alts := [], laidByText := true, laidKinds := [.data, .data, .data, .data, .sentinel, .sentinel, .pinned], laidTests := true, laidLooks := .later }
def UnflatGapsCardSaid : Prop := Claim7.holds Tryz.pinned (.plain (OpenSpec.ofChange unflatGapsSpec)) unflatGapsCard

/-- THE SECOND FORM's CARD OF 'dragomanlaw16.FlatSays'. -/
def flatSaysUptoCard : Claim7 := { stood := { row := flatSaysUptoRow, standIns := [], harness := (true, "be87ba75494a031ca9f27b222458c51d313edcac3c308efd9be4d3f09fb3f0dd"), looks := true }, kinds := [], alts := [], laidByText := true, laidKinds := [.data, .data, .data, .data, .sentinel, .sentinel, .pinned], laidTests := true, laidLooks := .later }
def FlatSaysUptoCardSaid : Prop := Claim7.holds Tryz.pinned (.plain (OpenSpec.upto flatSaysSpec)) flatSaysUptoCard

/-- THE SECOND FORM's CARD OF 'dragomanlaw17.UnflatKnown'. -/
def unflatKnownUptoCard : Claim7 := { stood := { row := unflatKnownUptoRow, standIns := [], harness := (true, "be87ba75494a031ca9f27b222458c51d313edcac3c308efd9be4d3f09fb3f0dd"), looks := true }, kinds := [], alts := [], laidByText := true, laidKinds := [.data, .data, .data, .data, .sentinel, .sentinel, .pinned], laidTests := true, laidLooks := .later }
def UnflatKnownUptoCardSaid : Prop := Claim7.holds Tryz.pinned (.plain (OpenSpec.upto unflatKnownSpec)) unflatKnownUptoCard

/-- THE SECOND FORM's CARD OF 'dragomanlaw17.UnflatSays'. -/
def unflatSaysUptoCard : Claim7 := { stood := { row := unflatSaysUptoRow, standIns := [], harness := (true, "be87ba75494a031ca9f27b222458c51d313edcac3c308efd9be4d3f09fb3f0dd"), looks := true }, kinds := [], alts := [], laidByText := true, laidKinds := [.data, .data, .data, .data, .sentinel, .sentinel, .pinned], laidTests := true, laidLooks := .later }
def UnflatSaysUptoCardSaid : Prop := Claim7.holds Tryz.pinned (.plain (OpenSpec.upto unflatSaysSpec)) unflatSaysUptoCard

/-- THE SECOND FORM's CARD OF 'dragomanlaw17.UnflatBuilds'. -/
def unflatBuildsUptoCard : Claim7 := { stood := { row := unflatBuildsUptoRow, standIns := [], harness := (true, "be87ba75494a031ca9f27b222458c51d313edcac3c308efd9be4d3f09fb3f0dd"), looks := true }, kinds := [], alts := [], laidByText := true, laidKinds := [.data, .data, .data, .data, .sentinel, .sentinel, .pinned], laidTests := true, laidLooks := .later }
def UnflatBuildsUptoCardSaid : Prop := Claim7.holds Tryz.pinned (.plain (OpenSpec.upto unflatBuildsSpec)) unflatBuildsUptoCard

/-- THE SECOND FORM's CARD OF 'dragomanlaw17.UnflatBack'. -/
def unflatBackUptoCard : Claim7 := { stood := { row := unflatBackUptoRow, standIns := [], harness := (true, "be87ba75494a031ca9f27b222458c51d313edcac3c308efd9be4d3f09fb3f0dd"), looks := true }, kinds := [], alts := [], laidByText := true, laidKinds := [.data, .data, .data, .data, .sentinel, .sentinel, .pinned], laidTests := true, laidLooks := .later }
def UnflatBackUptoCardSaid : Prop := Claim7.holds Tryz.pinned (.plain (OpenSpec.upto unflatBackSpec)) unflatBackUptoCard

/-- THE SECOND FORM's CARD OF 'dragomanlaw17.UnflatColumns'. -/
def unflatColumnsUptoCard : Claim7 := { stood := { row := unflatColumnsUptoRow, standIns := [], harness := (true, "be87ba75494a031ca9f27b222458c51d313edcac3c308efd9be4d3f09fb3f0dd"), looks := true }, kinds := [], alts := [], laidByText := true, laidKinds := [.data, .data, .data, .data, .sentinel, .sentinel, .pinned], laidTests := true, laidLooks := .later }
def UnflatColumnsUptoCardSaid : Prop := Claim7.holds Tryz.pinned (.plain (OpenSpec.upto unflatColumnsSpec)) unflatColumnsUptoCard

/-- THE SECOND FORM's CARD OF 'dragomanlaw17.UnflatGaps'. -/
def unflatGapsUptoCard : Claim7 := { stood := { row := unflatGapsUptoRow, standIns := [], harness := (true, "be87ba75494a031ca9f27b222458c51d313edcac3c308efd9be4d3f09fb3f0dd"), looks := true }, kinds := [], alts := [], laidByText := true, laidKinds := [.data, .data, .data, .data, .sentinel, .sentinel, .pinned], laidTests := true, laidLooks := .later }
def UnflatGapsUptoCardSaid : Prop := Claim7.holds Tryz.pinned (.plain (OpenSpec.upto unflatGapsSpec)) unflatGapsUptoCard
end Rows
end Go.Proofs.YtadbeodeiijhdaaGreatDoor
