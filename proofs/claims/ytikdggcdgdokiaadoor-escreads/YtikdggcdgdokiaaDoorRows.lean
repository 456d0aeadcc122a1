/-
  NARROWER THAN 'FOR EVERY INPUT', by the rows' own cells (each row's printed sentence says how): EscKnown: laid · EscReads: laid · EscWrites: laid · EscEvery: laid · EscCuts: laid.
  DERIVED. THE GIVEN ROWS OF THIS SEAT. 5 by the template 'for every input the law returns true; each argument reads behind the call as it read before'; 0 by the template 'total and deterministic' (their statements: YtikdggcdgdokiaaDoorTotals.lean).
  GIVEN WITH THE SEED: the statements are not yours to turn. If you find one false, say at which input.
  Laid BY PROGRAM, IN A SANDBOX (cutbox-rows.mjs): the forced cells as the released guide's own fill.sh prints them over the translation 44445a3d380f5237… (all of the seat's roots in one cut). By AI agents, Wed Nov 11 2026. No macro, syntax, notation, axiom, sorry.
-/
import Derived.Test.YtikdggcdgdokiaaDoorChecked
import GoSem.PinnedTables
import GoSem.Claim
import GoSem.ClaimJoined
import GoSem.ClaimMapViews
import Derived.JoinedTies
import Derived.KernelRfl
namespace Go.Proofs.YtikdggcdgdokiaaDoor
/- THE CELL 'sum', in the pinned program and in every row, IS THE sha256 OF THE DUMP (.gsa) THAT YtikdggcdgdokiaaDoorProg.lean LOADS. Nothing in Lean hashes anything: it is a label: what it is worth is what the hold of that sum in a sandbox is worth. -/
noncomputable def Tryd.pinned : Pinned := { name := "ytikdggcdgdokiaadoor", sum := "44445a3d380f52371f3637f6cbe18300dc600c6671a8625960a1c1fff57d79e8", checked := Tryd.checked }
namespace Rows
def none {H : Type} : Left H := { results := [], args := [] }

/- WHAT THE LISTED PACKAGE-LEVEL VARIABLES READ AS WHEN THE CALL BEGINS. Each datum BY PROGRAM (the guide's laid-datum.mjs) off the statement by which the dump's own 'gosem.cut.vars' lays the variable. In a bare row this is a premise. The card (YtikdggcdgdokiaaDoorCards.lean) ties it to the program's text. -/
def laid_unicode_utf8_acceptRanges {H : Type} : DataW H := .agg [.agg [.lit (.int .u8 128), .lit (.int .u8 191)], .agg [.lit (.int .u8 160), .lit (.int .u8 191)], .agg [.lit (.int .u8 128), .lit (.int .u8 159)], .agg [.lit (.int .u8 144), .lit (.int .u8 191)], .agg [.lit (.int .u8 128), .lit (.int .u8 143)], .agg [.lit (.int .u8 0), .lit (.int .u8 0)], .agg [.lit (.int .u8 0), .lit (.int .u8 0)], .agg [.lit (.int .u8 0), .lit (.int .u8 0)], .agg [.lit (.int .u8 0), .lit (.int .u8 0)], .agg [.lit (.int .u8 0), .lit (.int .u8 0)], .agg [.lit (.int .u8 0), .lit (.int .u8 0)], .agg [.lit (.int .u8 0), .lit (.int .u8 0)], .agg [.lit (.int .u8 0), .lit (.int .u8 0)], .agg [.lit (.int .u8 0), .lit (.int .u8 0)], .agg [.lit (.int .u8 0), .lit (.int .u8 0)], .agg [.lit (.int .u8 0), .lit (.int .u8 0)]]
/-- One of Go's own tables, pinned by name: the form's constant. -/
def laid_unicode_utf8_first : DataW Unit := Go.Pinned.utf8First

/-- 'dragomanlaw6.EscKnown': WHATEVER THE INPUT: true; the input reads as it did. -/
def escKnownSpec : ChangeSpec := { name := "escKnown", fn := fun _ => fun
  | [] => { results := [.lit (.bool true)], args := [] }
  | _ => none }
def escKnownRow : OpenClaim := { program := "ytikdggcdgdokiaadoor", sum := "44445a3d380f52371f3637f6cbe18300dc600c6671a8625960a1c1fff57d79e8", func := "dragoman/dragomanlaw6.EscKnown", spec := "escKnown", inPlace := ["internal/bytealg.IndexByteString", "internal/bytealg.IndexString"], unfollowed := true, recurses := true, named := ["unicode/utf8.first", "unicode/utf8.acceptRanges", "internal/bytealg.MaxLen"], apart := false, laid := [("unicode/utf8.acceptRanges", laid_unicode_utf8_acceptRanges), ("unicode/utf8.first", laid_unicode_utf8_first)] }
def EscKnownSaid : Prop := escKnownRow.holds Tryd.pinned (OpenSpec.ofChange escKnownSpec)

/-- ITS FALSE NEIGHBOUR: 'it returns false'. Refute it at one input. -/
def escKnownWrong : ChangeSpec := { name := "escKnown", fn := fun _ => fun
  | [] => { results := [.lit (.bool false)], args := [] }
  | _ => none }
def EscKnownWrongFalsely : Prop := escKnownRow.holds Tryd.pinned (OpenSpec.ofChange escKnownWrong)

/-- 'dragomanlaw6.EscReads': WHATEVER THE INPUT: true; the input reads as it did. -/
def escReadsSpec : ChangeSpec := { name := "escReads", fn := fun _ => fun
  | [d1, d2] => { results := [.lit (.bool true)], args := [d1, d2] }
  | _ => none }
def escReadsRow : OpenClaim := { program := "ytikdggcdgdokiaadoor", sum := "44445a3d380f52371f3637f6cbe18300dc600c6671a8625960a1c1fff57d79e8", func := "dragoman/dragomanlaw6.EscReads", spec := "escReads", inPlace := ["internal/bytealg.IndexByteString", "internal/bytealg.IndexString"], unfollowed := true, recurses := true, named := ["unicode/utf8.first", "unicode/utf8.acceptRanges", "internal/bytealg.MaxLen"], apart := false, laid := [("unicode/utf8.acceptRanges", laid_unicode_utf8_acceptRanges), ("unicode/utf8.first", laid_unicode_utf8_first)] }
def EscReadsSaid : Prop := escReadsRow.holds Tryd.pinned (OpenSpec.ofChange escReadsSpec)

/-- ITS FALSE NEIGHBOUR: 'it returns false'. Refute it at one input. -/
def escReadsWrong : ChangeSpec := { name := "escReads", fn := fun _ => fun
  | [d1, d2] => { results := [.lit (.bool false)], args := [d1, d2] }
  | _ => none }
def EscReadsWrongFalsely : Prop := escReadsRow.holds Tryd.pinned (OpenSpec.ofChange escReadsWrong)

/-- 'dragomanlaw6.EscWrites': WHATEVER THE INPUT: true; the input reads as it did. -/
def escWritesSpec : ChangeSpec := { name := "escWrites", fn := fun _ => fun
  | [d1, d2] => { results := [.lit (.bool true)], args := [d1, d2] }
  | _ => none }
def escWritesRow : OpenClaim := { program := "ytikdggcdgdokiaadoor", sum := "44445a3d380f52371f3637f6cbe18300dc600c6671a8625960a1c1fff57d79e8", func := "dragoman/dragomanlaw6.EscWrites", spec := "escWrites", inPlace := ["internal/bytealg.IndexByteString", "internal/bytealg.IndexString"], unfollowed := true, recurses := true, named := ["unicode/utf8.first", "unicode/utf8.acceptRanges", "internal/bytealg.MaxLen"], apart := false, laid := [("unicode/utf8.acceptRanges", laid_unicode_utf8_acceptRanges), ("unicode/utf8.first", laid_unicode_utf8_first)] }
def EscWritesSaid : Prop := escWritesRow.holds Tryd.pinned (OpenSpec.ofChange escWritesSpec)

/-- ITS FALSE NEIGHBOUR: 'it returns false'. Refute it at one input. -/
def escWritesWrong : ChangeSpec := { name := "escWrites", fn := fun _ => fun
  | [d1, d2] => { results := [.lit (.bool false)], args := [d1, d2] }
  | _ => none }
def EscWritesWrongFalsely : Prop := escWritesRow.holds Tryd.pinned (OpenSpec.ofChange escWritesWrong)

/-- 'dragomanlaw6.EscEvery': WHATEVER THE INPUT: true; the input reads as it did. -/
def escEverySpec : ChangeSpec := { name := "escEvery", fn := fun _ => fun
  | [d] => { results := [.lit (.bool true)], args := [d] }
  | _ => none }
def escEveryRow : OpenClaim := { program := "ytikdggcdgdokiaadoor", sum := "44445a3d380f52371f3637f6cbe18300dc600c6671a8625960a1c1fff57d79e8", func := "dragoman/dragomanlaw6.EscEvery", spec := "escEvery", inPlace := ["internal/bytealg.IndexByteString", "internal/bytealg.IndexString"], unfollowed := true, recurses := true, named := ["unicode/utf8.first", "unicode/utf8.acceptRanges", "internal/bytealg.MaxLen"], apart := false, laid := [("unicode/utf8.acceptRanges", laid_unicode_utf8_acceptRanges), ("unicode/utf8.first", laid_unicode_utf8_first)] }
def EscEverySaid : Prop := escEveryRow.holds Tryd.pinned (OpenSpec.ofChange escEverySpec)

/-- ITS FALSE NEIGHBOUR: 'it returns false'. Refute it at one input. -/
def escEveryWrong : ChangeSpec := { name := "escEvery", fn := fun _ => fun
  | [d] => { results := [.lit (.bool false)], args := [d] }
  | _ => none }
def EscEveryWrongFalsely : Prop := escEveryRow.holds Tryd.pinned (OpenSpec.ofChange escEveryWrong)

/-- 'dragomanlaw6.EscCuts': WHATEVER THE INPUT: true; the input reads as it did. -/
def escCutsSpec : ChangeSpec := { name := "escCuts", fn := fun _ => fun
  | [d1, d2] => { results := [.lit (.bool true)], args := [d1, d2] }
  | _ => none }
def escCutsRow : OpenClaim := { program := "ytikdggcdgdokiaadoor", sum := "44445a3d380f52371f3637f6cbe18300dc600c6671a8625960a1c1fff57d79e8", func := "dragoman/dragomanlaw6.EscCuts", spec := "escCuts", inPlace := ["internal/bytealg.IndexByteString", "internal/bytealg.IndexString"], unfollowed := true, recurses := true, named := ["unicode/utf8.first", "unicode/utf8.acceptRanges", "internal/bytealg.MaxLen"], apart := false, laid := [("unicode/utf8.acceptRanges", laid_unicode_utf8_acceptRanges), ("unicode/utf8.first", laid_unicode_utf8_first)] }
def EscCutsSaid : Prop := escCutsRow.holds Tryd.pinned (OpenSpec.ofChange escCutsSpec)

/-- ITS FALSE NEIGHBOUR: 'it returns false'. Refute it at one input. -/
def escCutsWrong : ChangeSpec := { name := "escCuts", fn := fun _ => fun
  | [d1, d2] => { results := [.lit (.bool false)], args := [d1, d2] }
  | _ => none }
def EscCutsWrongFalsely : Prop := escCutsRow.holds Tryd.pinned (OpenSpec.ofChange escCutsWrong)

/- THE SECOND FORM. 'bulk': how many values and letters a reading holds, each counted each time it is reached (what is shared counts as often as it is met; a slice's spare places count too). A statement '..UptoSaid' is the law's where the arguments, and the package variables that the reading takes, are together of bulk at most 1048576: NARROWER than '..Said'. Prove '..Said' where nothing that the law and all that it calls make is longer than what came in: it says more and counts as full. Else prove '..UptoSaid'. A law counts once. -/
mutual
def uptoBulk {H : Type} : DataW H → Nat
  | .lit (.string bytes) => bytes.length + 1
  | .lit _ => 1
  | .nil => 1
  | .ptr d => uptoBulk d + 1
  | .slice elems spare => uptoBulkAll elems + uptoBulkAll spare + 1
  | .agg parts => uptoBulkAll parts + 1
  | .iface _ d => uptoBulk d + 1
  | .map entries => uptoBulkEntries entries + 1
  | .held _ => 1
def uptoBulkAll {H : Type} : List (DataW H) → Nat
  | [] => 0
  | d :: r => uptoBulk d + uptoBulkAll r
def uptoBulkEntries {H : Type} : List (Lit × DataW H) → Nat
  | [] => 0
  | x :: r => uptoBulkEntry x + uptoBulkEntries r
def uptoBulkEntry {H : Type} : Lit × DataW H → Nat
  | (.string bytes, d) => bytes.length + uptoBulk d + 1
  | (_, d) => uptoBulk d + 1
 end
def uptoSmall : (H : Type) → List (DataW H) → Bool := fun _ ds => decide (uptoBulkAll ds ≤ 1048576)
def OpenSpec.upto (s : _root_.Go.ChangeSpec) : _root_.Go.OpenSpec := { _root_.Go.OpenSpec.ofChange s with cond := some uptoSmall }

/-- 'dragomanlaw6.EscKnown', WHERE WHAT IT READS IS OF BULK AT MOST 1048576: true; the input reads as it did. -/
def escKnownUptoRow : OpenClaim := { program := "ytikdggcdgdokiaadoor", sum := "44445a3d380f52371f3637f6cbe18300dc600c6671a8625960a1c1fff57d79e8", func := "dragoman/dragomanlaw6.EscKnown", spec := "escKnown", inPlace := ["internal/bytealg.IndexByteString", "internal/bytealg.IndexString"], unfollowed := true, recurses := true, named := ["unicode/utf8.first", "unicode/utf8.acceptRanges", "internal/bytealg.MaxLen"], apart := false, laid := [("unicode/utf8.acceptRanges", laid_unicode_utf8_acceptRanges), ("unicode/utf8.first", laid_unicode_utf8_first)], narrowed := true }
def EscKnownUptoSaid : Prop := escKnownUptoRow.holds Tryd.pinned (OpenSpec.upto escKnownSpec)

/-- 'dragomanlaw6.EscReads', WHERE WHAT IT READS IS OF BULK AT MOST 1048576: true; the input reads as it did. -/
def escReadsUptoRow : OpenClaim := { program := "ytikdggcdgdokiaadoor", sum := "44445a3d380f52371f3637f6cbe18300dc600c6671a8625960a1c1fff57d79e8", func := "dragoman/dragomanlaw6.EscReads", spec := "escReads", inPlace := ["internal/bytealg.IndexByteString", "internal/bytealg.IndexString"], unfollowed := true, recurses := true, named := ["unicode/utf8.first", "unicode/utf8.acceptRanges", "internal/bytealg.MaxLen"], apart := false, laid := [("unicode/utf8.acceptRanges", laid_unicode_utf8_acceptRanges), ("unicode/utf8.first", laid_unicode_utf8_first)], narrowed := true }
def EscReadsUptoSaid : Prop := escReadsUptoRow.holds Tryd.pinned (OpenSpec.upto escReadsSpec)

/-- 'dragomanlaw6.EscWrites', WHERE WHAT IT READS IS OF BULK AT MOST 1048576: true; the input reads as it did. -/
def escWritesUptoRow : OpenClaim := { program := "ytikdggcdgdokiaadoor", sum := "44445a3d380f52371f3637f6cbe18300dc600c6671a8625960a1c1fff57d79e8", func := "dragoman/dragomanlaw6.EscWrites", spec := "escWrites", inPlace := ["internal/bytealg.IndexByteString", "internal/bytealg.IndexString"], unfollowed := true, recurses := true, named := ["unicode/utf8.first", "unicode/utf8.acceptRanges", "internal/bytealg.MaxLen"], apart := false, laid := [("unicode/utf8.acceptRanges", laid_unicode_utf8_acceptRanges), ("unicode/utf8.first", laid_unicode_utf8_first)], narrowed := true }
def EscWritesUptoSaid : Prop := escWritesUptoRow.holds Tryd.pinned (OpenSpec.upto escWritesSpec)

/-- 'dragomanlaw6.EscEvery', WHERE WHAT IT READS IS OF BULK AT MOST 1048576: true; the input reads as it did. -/
def escEveryUptoRow : OpenClaim := { program := "ytikdggcdgdokiaadoor", sum := "44445a3d380f52371f3637f6cbe18300dc600c6671a8625960a1c1fff57d79e8", func := "dragoman/dragomanlaw6.EscEvery", spec := "escEvery", inPlace := ["internal/bytealg.IndexByteString", "internal/bytealg.IndexString"], unfollowed := true, recurses := true, named := ["unicode/utf8.first", "unicode/utf8.acceptRanges", "internal/bytealg.MaxLen"], apart := false, laid := [("unicode/utf8.acceptRanges", laid_unicode_utf8_acceptRanges), ("unicode/utf8.first", laid_unicode_utf8_first)], narrowed := true }
def EscEveryUptoSaid : Prop := escEveryUptoRow.holds Tryd.pinned (OpenSpec.upto escEverySpec)

/-- 'dragomanlaw6.EscCuts', WHERE WHAT IT READS IS OF BULK AT MOST 1048576: true; the input reads as it did. -/
def escCutsUptoRow : OpenClaim := { program := "ytikdggcdgdokiaadoor", sum := "44445a3d380f52371f3637f6cbe18300dc600c6671a8625960a1c1fff57d79e8", func := "dragoman/dragomanlaw6.EscCuts", spec := "escCuts", inPlace := ["internal/bytealg.IndexByteString", "internal/bytealg.IndexString"], unfollowed := true, recurses := true, named := ["unicode/utf8.first", "unicode/utf8.acceptRanges", "internal/bytealg.MaxLen"], apart := false, laid := [("unicode/utf8.acceptRanges", laid_unicode_utf8_acceptRanges), ("unicode/utf8.first", laid_unicode_utf8_first)], narrowed := true }
def EscCutsUptoSaid : Prop := escCutsUptoRow.holds Tryd.pinned (OpenSpec.upto escCutsSpec)

end Rows
end Go.Proofs.YtikdggcdgdokiaaDoor
