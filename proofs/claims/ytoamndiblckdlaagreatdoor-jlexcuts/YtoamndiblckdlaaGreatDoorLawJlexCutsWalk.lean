/- The statement JlexCuts: walked. -/
import Derived.Test.YtoamndiblckdlaaGreatDoorLexH
import Derived.Test.YtoamndiblckdlaaGreatDoorJxTwo
namespace Go.Proofs.YtoamndiblckdlaaGreatDoor
open Go.RowKit

theorem Tryz.jlexCuts_walk (t : ByteArray) (_w0 : t.size ≤ maxLen) (w : World) (hg : GlobU w) :
    Calls Tryz.prog 4 #[.string t] w fun e w' => e = .returned (.bool true) ∧ Below w.heap.size w w' := Tryz.cuts_of Tryz.jhas t w hg
end Go.Proofs.YtoamndiblckdlaaGreatDoor
