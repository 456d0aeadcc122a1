/-
  DERIVED. GIVEN WITH THE SEED: THE CARDS: each row of YteimbjamnfkapaaGreatDoorRows.lean that lists a variable, with what it lists TIED to the program's text (the seventh form; the later family's looks); each row that meets fmt, with fmt's text TOLD by the authors' own Lean function (tested against real Go, not proved from fmt's source: count such statements apart). THE CARD IS WHAT COUNTS. Prove the row's statement (the work); the ties are given (YteimbjamnfkapaaGreatDoorTie.lean); close each card by the builder's one call (the guide's Derived/Test/ToyasCard.lean, 'card_holds'). Laid BY PROGRAM, IN A SANDBOX (cutbox-door.mjs). By AI agents, Wed Nov 11 2026. No macro, syntax, notation, axiom, sorry.
-/
import Derived.Test.YteimbjamnfkapaaGreatDoorRows
import GoSem.ClaimSeven
namespace Go.Proofs.YteimbjamnfkapaaGreatDoor
namespace Rows

/-- THE TIED CARD OF 'dragomanlaw17.UnflatSays'. -/
def unflatSaysCard : Claim7 := { stood := { row := unflatSaysRow, standIns := [], harness := (true, "e0bbf744f124d7e04904ec522d51bac0c575f6986f72b8fb4280755730e8c3f7"), looks := true }, kinds := [], alts := [], laidByText := true, laidKinds := [.data, .data, .data, .data, .sentinel, .sentinel, .pinned], laidTests := true, laidLooks := .later }
def UnflatSaysCardSaid : Prop := Claim7.holds Tryz.pinned (.plain (OpenSpec.ofChange unflatSaysSpec)) unflatSaysCard

/-- THE TIED CARD OF 'dragomanlaw17.UnflatBuilds'. -/
def unflatBuildsCard : Claim7 := { stood := { row := unflatBuildsRow, standIns := [], harness := (true, "e0bbf744f124d7e04904ec522d51bac0c575f6986f72b8fb4280755730e8c3f7"), looks := true }, kinds := [], alts := [], laidByText := true, laidKinds := [.data, .data, .data, .data, .sentinel, .sentinel, .pinned], laidTests := true, laidLooks := .later }
def UnflatBuildsCardSaid : Prop := Claim7.holds Tryz.pinned (.plain (OpenSpec.ofChange unflatBuildsSpec)) unflatBuildsCard

/-- THE TIED CARD OF 'dragomanlaw17.UnflatBack'. -/
def unflatBackCard : Claim7 := { stood := { row := unflatBackRow, standIns := [], harness := (true, "e0bbf744f124d7e04904ec522d51bac0c575f6986f72b8fb4280755730e8c3f7"), looks := true }, kinds := [], alts := [], laidByText := true, laidKinds := [.data, .data, .data, .data, .sentinel, .sentinel, .pinned], laidTests := true, laidLooks := .later }
def UnflatBackCardSaid : Prop := Claim7.holds Tryz.pinned (.plain (OpenSpec.ofChange unflatBackSpec)) unflatBackCard

/-- THE TIED CARD OF 'dragomanlaw17.UnflatColumns'. -/
def unflatColumnsCard : Claim7 := { stood := { row := unflatColumnsRow, standIns := [], harness := (true, "e0bbf744f124d7e04904ec522d51bac0c575f6986f72b8fb4280755730e8c3f7"), looks := true }, kinds := [], alts := [], laidByText := true, laidKinds := [.data, .data, .data, .data, .sentinel, .sentinel, .pinned], laidTests := true, laidLooks := .later }
def UnflatColumnsCardSaid : Prop := Claim7.holds Tryz.pinned (.plain (OpenSpec.ofChange unflatColumnsSpec)) unflatColumnsCard

/-- THE TIED CARD OF 'dragomanlaw17.UnflatGaps'. -/
def unflatGapsCard : Claim7 := { stood := { row := unflatGapsRow, standIns := [], harness := (true, "e0bbf744f124d7e04904ec522d51bac0c575f6986f72b8fb4280755730e8c3f7"), looks := true }, kinds := [], alts := [], laidByText := true, laidKinds := [.data, .data, .data, .data, .sentinel, .sentinel, .pinned], laidTests := true, laidLooks := .later }
def UnflatGapsCardSaid : Prop := Claim7.holds Tryz.pinned (.plain (OpenSpec.ofChange unflatGapsSpec)) unflatGapsCard

/-- THE TIED CARD OF 'dragomanlaw18.LossKnown'. -/
def lossKnownCard : Claim7 := { stood := { row := lossKnownRow, standIns := [], harness := (true, "e0bbf744f124d7e04904ec522d51bac0c575f6986f72b8fb4280755730e8c3f7"), looks := true }, kinds := [], alts := [], laidByText := true, laidKinds := [.data, .data, .data, .data, .sentinel, .sentinel, .data, .pinned], laidTests := true, laidLooks := .later }
def LossKnownCardSaid : Prop := Claim7.holds Tryz.pinned (.plain (OpenSpec.ofChange lossKnownSpec)) lossKnownCard

/-- THE TIED CARD OF 'dragomanlaw18.LossSays'. -/
def lossSaysCard : Claim7 := { stood := { row := lossSaysRow, standIns := [], harness := (true, "e0bbf744f124d7e04904ec522d51bac0c575f6986f72b8fb4280755730e8c3f7"), looks := true }, kinds := [], alts := [], laidByText := true, laidKinds := [.data, .data, .data, .data, .sentinel, .sentinel, .data, .pinned], laidTests := true, laidLooks := .later }
def LossSaysCardSaid : Prop := Claim7.holds Tryz.pinned (.plain (OpenSpec.ofChange lossSaysSpec)) lossSaysCard

/-- THE TIED CARD OF 'dragomanlaw18.LossFits'. -/
def lossFitsCard : Claim7 := { stood := { row := lossFitsRow, standIns := [], harness := (true, "e0bbf744f124d7e04904ec522d51bac0c575f6986f72b8fb4280755730e8c3f7"), looks := true }, kinds := [], alts := [], laidByText := true, laidKinds := [.data, .data, .data, .data, .sentinel, .sentinel, .data, .pinned], laidTests := true, laidLooks := .later }
def LossFitsCardSaid : Prop := Claim7.holds Tryz.pinned (.plain (OpenSpec.ofChange lossFitsSpec)) lossFitsCard

/-- THE TIED CARD OF 'dragomanlaw18.LossCommon'. -/
def lossCommonCard : Claim7 := { stood := { row := lossCommonRow, standIns := [], harness := (true, "e0bbf744f124d7e04904ec522d51bac0c575f6986f72b8fb4280755730e8c3f7"), looks := true }, kinds := [], alts := [], laidByText := true, laidKinds := [.data, .data, .data, .data, .sentinel, .sentinel, .data, .pinned], laidTests := true, laidLooks := .later }
def LossCommonCardSaid : Prop := Claim7.holds Tryz.pinned (.plain (OpenSpec.ofChange lossCommonSpec)) lossCommonCard

/-- THE TIED CARD OF 'dragomanlaw18.LossNotes'. -/
def lossNotesCard : Claim7 := { stood := { row := lossNotesRow, standIns := [], harness := (true, "e0bbf744f124d7e04904ec522d51bac0c575f6986f72b8fb4280755730e8c3f7"), looks := true }, kinds := [], alts := [], laidByText := true, laidKinds := [.data, .data, .data, .data, .sentinel, .sentinel, .data, .pinned], laidTests := true, laidLooks := .later }
def LossNotesCardSaid : Prop := Claim7.holds Tryz.pinned (.plain (OpenSpec.ofChange lossNotesSpec)) lossNotesCard

/-- THE SECOND FORM's CARD OF 'dragomanlaw17.UnflatSays'. -/
def unflatSaysUptoCard : Claim7 := { stood := { row := unflatSaysUptoRow, standIns := [], harness := (true, "e0bbf744f124d7e04904ec522d51bac0c575f6986f72b8fb4280755730e8c3f7"), looks := true }, kinds := [], alts := [], laidByText := true, laidKinds := [.data, .data, .data, .data, .sentinel, .sentinel, .pinned], laidTests := true, laidLooks := .later }
def UnflatSaysUptoCardSaid : Prop := Claim7.holds Tryz.pinned (.plain (OpenSpec.upto unflatSaysSpec)) unflatSaysUptoCard

/-- THE SECOND FORM's CARD OF 'dragomanlaw17.UnflatBuilds'. -/
def unflatBuildsUptoCard : Claim7 := { stood := { row := unflatBuildsUptoRow, standIns := [], harness := (true, "e0bbf744f124d7e04904ec522d51bac0c575f6986f72b8fb4280755730e8c3f7"), looks := true }, kinds := [], alts := [], laidByText := true, laidKinds := [.data, .data, .data, .data, .sentinel, .sentinel, .pinned], laidTests := true, laidLooks := .later }
def UnflatBuildsUptoCardSaid : Prop := Claim7.holds Tryz.pinned (.plain (OpenSpec.upto unflatBuildsSpec)) unflatBuildsUptoCard

/-- THE SECOND FORM's CARD OF 'dragomanlaw17.UnflatBack'. -/
def unflatBackUptoCard : Claim7 := { stood := { row := unflatBackUptoRow, standIns := [], harness := (true, "e0bbf744f124d7e04904ec522d51bac0c575f6986f72b8fb4280755730e8c3f7"), looks := true }, kinds := [], alts := [], laidByText := true, laidKinds := [.data, .data, .data, .data, .sentinel, .sentinel, .pinned], laidTests := true, laidLooks := .later }
def UnflatBackUptoCardSaid : Prop := Claim7.holds Tryz.pinned (.plain (OpenSpec.upto unflatBackSpec)) unflatBackUptoCard

/-- THE SECOND FORM's CARD OF 'dragomanlaw17.UnflatColumns'. -/
def unflatColumnsUptoCard : Claim7 := { stood := { row := unflatColumnsUptoRow, standIns := [], harness := (true, "e0bbf744f124d7e04904ec522d51bac0c575f6986f72b8fb4280755730e8c3f7"), looks := true }, kinds := [], alts := [], laidByText := true, laidKinds := [.data, .data, .data, .data, .sentinel, .sentinel, .pinned], laidTests := true, laidLooks := .later }
def UnflatColumnsUptoCardSaid : Prop := Claim7.holds Tryz.pinned (.plain (OpenSpec.upto unflatColumnsSpec)) unflatColumnsUptoCard

/-- THE SECOND FORM's CARD OF 'dragomanlaw17.UnflatGaps'. -/
def unflatGapsUptoCard : Claim7 := { stood := { row := unflatGapsUptoRow, standIns := [], harness := (true, "e0bbf744f124d7e04904ec522d51bac0c575f6986f72b8fb4280755730e8c3f7"), looks := true }, kinds := [], alts := [], laidByText := true, laidKinds := [.data, .data, .data, .data, .sentinel, .sentinel, .pinned], laidTests := true, laidLooks := .later }
def UnflatGapsUptoCardSaid : Prop := Claim7.holds Tryz.pinned (.plain (OpenSpec.upto unflatGapsSpec)) unflatGapsUptoCard

/-- THE SECOND FORM's CARD OF 'dragomanlaw18.LossKnown'. -/
def lossKnownUptoCard : Claim7 := { stood := { row := lossKnownUptoRow, standIns := [], harness := (true, "e0bbf744f124d7e04904ec522d51bac0c575f6986f72b8fb4280755730e8c3f7"), looks := true }, kinds := [], alts := [], laidByText := true, laidKinds := [.data, .data, .data, .data, .sentinel, .sentinel, .data, .pinned], laidTests := true, laidLooks := .later }
def LossKnownUptoCardSaid : Prop := Claim7.holds Tryz.pinned (.plain (OpenSpec.upto lossKnownSpec)) lossKnownUptoCard

/-- THE SECOND FORM's CARD OF 'dragomanlaw18.LossSays'. -/
def lossSaysUptoCard : Claim7 := { stood := { row := lossSaysUptoRow, standIns := [], harness := (true, "e0bbf744f124d7e04904ec522d51bac0c575f6986f72b8fb4280755730e8c3f7"), looks := true }, kinds := [], alts := [], laidByText := true, laidKinds := [.data, .data, .data, .data, .sentinel, .sentinel, .data, .pinned], laidTests := true, laidLooks := .later }
def LossSaysUptoCardSaid : Prop := Claim7.holds Tryz.pinned (.plain (OpenSpec.upto lossSaysSpec)) lossSaysUptoCard

/-- THE SECOND FORM's CARD OF 'dragomanlaw18.LossFits'. -/
def lossFitsUptoCard : Claim7 := { stood := { row := lossFitsUptoRow, standIns := [], harness := (true, "e0bbf744f124d7e04904ec522d51bac0c575f6986f72b8fb4280755730e8c3f7"), looks := true }, kinds := [], alts := [], laidByText := true, laidKinds := [.data, .data, .data, .data, .sentinel, .sentinel, .data, .pinned], laidTests := true, laidLooks := .later }
def LossFitsUptoCardSaid : Prop := Claim7.holds Tryz.pinned (.plain (OpenSpec.upto lossFitsSpec)) lossFitsUptoCard

/-- THE SECOND FORM's CARD OF 'dragomanlaw18.LossCommon'. -/
def lossCommonUptoCard : Claim7 := { stood := { row := lossCommonUptoRow, standIns := [], harness := (true, "e0bbf744f124d7e04904ec522d51bac0c575f6986f72b8fb4280755730e8c3f7"), looks := true }, kinds := [], alts := [], laidByText := true, laidKinds := [.data, .data, .data, .data, .sentinel, .sentinel, .data, .pinned], laidTests := true, laidLooks := .later }
def LossCommonUptoCardSaid : Prop := Claim7.holds Tryz.pinned (.plain (OpenSpec.upto lossCommonSpec)) lossCommonUptoCard

/-- THE SECOND FORM's CARD OF 'dragomanlaw18.LossNotes'. -/
def lossNotesUptoCard : Claim7 := { stood := { row := lossNotesUptoRow, standIns := [], harness := (true, "e0bbf744f124d7e04904ec522d51bac0c575f6986f72b8fb4280755730e8c3f7"), looks := true }, kinds := [], alts := [], laidByText := true, laidKinds := [.data, .data, .data, .data, .sentinel, .sentinel, .data, .pinned], laidTests := true, laidLooks := .later }
def LossNotesUptoCardSaid : Prop := Claim7.holds Tryz.pinned (.plain (OpenSpec.upto lossNotesSpec)) lossNotesUptoCard
end Rows
end Go.Proofs.YteimbjamnfkapaaGreatDoor
