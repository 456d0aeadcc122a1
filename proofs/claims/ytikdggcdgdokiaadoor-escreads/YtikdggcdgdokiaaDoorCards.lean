/-
  DERIVED. GIVEN WITH THE SEED: THE CARDS: each row of YtikdggcdgdokiaaDoorRows.lean that lists a variable, with what it lists TIED to the program's text (the seventh form; the later family's looks); each row that meets fmt, with fmt's text TOLD by the authors' own Lean function (tested against real Go, not proved from fmt's source: count such statements apart). THE CARD IS WHAT COUNTS. Prove the row's statement (the work); the ties are given (YtikdggcdgdokiaaDoorTie.lean); close each card by the builder's one call (the guide's Derived/Test/ToyasCard.lean, 'card_holds'). Laid BY PROGRAM, IN A SANDBOX (cutbox-door.mjs). By AI agents, Wed Nov 11 2026. No macro, syntax, notation, axiom, sorry.
-/
import Derived.Test.YtikdggcdgdokiaaDoorRows
import GoSem.ClaimSeven
namespace Go.Proofs.YtikdggcdgdokiaaDoor
namespace Rows

/-- THE TIED CARD OF 'dragomanlaw6.EscKnown'. -/
def escKnownCard : Claim7 := { stood := { row := escKnownRow, standIns := [], harness := (true, "8d7a7d70fdb67704466182d70ff37192bccc0015d0311d7241b46b3551f70448"), looks := false }, kinds := [], alts := [], laidByText := true, laidKinds := [.data, .pinned], laidTests := true, laidLooks := .later }
def EscKnownCardSaid : Prop := Claim7.holds Tryd.pinned (.plain (OpenSpec.ofChange escKnownSpec)) escKnownCard

/-- THE TIED CARD OF 'dragomanlaw6.EscReads'. -/
def escReadsCard : Claim7 := { stood := { row := escReadsRow, standIns := [], harness := (true, "8d7a7d70fdb67704466182d70ff37192bccc0015d0311d7241b46b3551f70448"), looks := false }, kinds := [], alts := [], laidByText := true, laidKinds := [.data, .pinned], laidTests := true, laidLooks := .later }
def EscReadsCardSaid : Prop := Claim7.holds Tryd.pinned (.plain (OpenSpec.ofChange escReadsSpec)) escReadsCard

/-- THE TIED CARD OF 'dragomanlaw6.EscWrites'. -/
def escWritesCard : Claim7 := { stood := { row := escWritesRow, standIns := [], harness := (true, "8d7a7d70fdb67704466182d70ff37192bccc0015d0311d7241b46b3551f70448"), looks := false }, kinds := [], alts := [], laidByText := true, laidKinds := [.data, .pinned], laidTests := true, laidLooks := .later }
def EscWritesCardSaid : Prop := Claim7.holds Tryd.pinned (.plain (OpenSpec.ofChange escWritesSpec)) escWritesCard

/-- THE TIED CARD OF 'dragomanlaw6.EscEvery'. -/
def escEveryCard : Claim7 := { stood := { row := escEveryRow, standIns := [], harness := (true, "8d7a7d70fdb67704466182d70ff37192bccc0015d0311d7241b46b3551f70448"), looks := false }, kinds := [], alts := [], laidByText := true, laidKinds := [.data, .pinned], laidTests := true, laidLooks := .later }
def EscEveryCardSaid : Prop := Claim7.holds Tryd.pinned (.plain (OpenSpec.ofChange escEverySpec)) escEveryCard

/-- THE TIED CARD OF 'dragomanlaw6.EscCuts'. -/
def escCutsCard : Claim7 := { stood := { row := escCutsRow, standIns := [], harness := (true, "8d7a7d70fdb67704466182d70ff37192bccc0015d0311d7241b46b3551f70448"), looks := false }, kinds := [], alts := [], laidByText := true, laidKinds := [.data, .pinned], laidTests := true, laidLooks := .later }
def EscCutsCardSaid : Prop := Claim7.holds Tryd.pinned (.plain (OpenSpec.ofChange escCutsSpec)) escCutsCard

/-- THE SECOND FORM's CARD OF 'dragomanlaw6.EscKnown'. -/
def escKnownUptoCard : Claim7 := { stood := { row := escKnownUptoRow, standIns := [], harness := (true, "8d7a7d70fdb67704466182d70ff37192bccc0015d0311d7241b46b3551f70448"), looks := false }, kinds := [], alts := [], laidByText := true, laidKinds := [.data, .pinned], laidTests := true, laidLooks := .later }
def EscKnownUptoCardSaid : Prop := Claim7.holds Tryd.pinned (.plain (OpenSpec.upto escKnownSpec)) escKnownUptoCard

/-- THE SECOND FORM's CARD OF 'dragomanlaw6.EscReads'. -/
def escReadsUptoCard : Claim7 := { stood := { row := escReadsUptoRow, standIns := [], harness := (true, "8d7a7d70fdb67704466182d70ff37192bccc0015d0311d7241b46b3551f70448"), looks := false }, kinds := [], alts := [], laidByText := true, laidKinds := [.data, .pinned], laidTests := true, laidLooks := .later }
def EscReadsUptoCardSaid : Prop := Claim7.holds Tryd.pinned (.plain (OpenSpec.upto escReadsSpec)) escReadsUptoCard

/-- THE SECOND FORM's CARD OF 'dragomanlaw6.EscWrites'. -/
def escWritesUptoCard : Claim7 := { stood := { row := escWritesUptoRow, standIns := [], harness := (true, "8d7a7d70fdb67704466182d70ff37192bccc0015d0311d7241b46b3551f70448"), looks := false }, kinds := [], alts := [], laidByText := true, laidKinds := [.data, .pinned], laidTests := true, laidLooks := .later }
def EscWritesUptoCardSaid : Prop := Claim7.holds Tryd.pinned (.plain (OpenSpec.upto escWritesSpec)) escWritesUptoCard

/-- THE SECOND FORM's CARD OF 'dragomanlaw6.EscEvery'. -/
def escEveryUptoCard : Claim7 := { stood := { row := escEveryUptoRow, standIns := [], harness := (true, "8d7a7d70fdb67704466182d70ff37192bccc0015d0311d7241b46b3551f70448"), looks := false }, kinds := [], alts := [], laidByText := true, laidKinds := [.data, .pinned], laidTests := true, laidLooks := .later }
def EscEveryUptoCardSaid : Prop := Claim7.holds Tryd.pinned (.plain (OpenSpec.upto escEverySpec)) escEveryUptoCard

/-- THE SECOND FORM's CARD OF 'dragomanlaw6.EscCuts'. -/
def escCutsUptoCard : Claim7 := { stood := { row := escCutsUptoRow, standIns := [], harness := (true, "8d7a7d70fdb67704466182d70ff37192bccc0015d0311d7241b46b3551f70448"), looks := false }, kinds := [], alts := [], laidByText := true, laidKinds := [.data, .pinned], laidTests := true, laidLooks := .later }
def EscCutsUptoCardSaid : Prop := Claim7.holds Tryd.pinned (.plain (OpenSpec.upto escCutsSpec)) escCutsUptoCard
end Rows
end Go.Proofs.YtikdggcdgdokiaaDoor
