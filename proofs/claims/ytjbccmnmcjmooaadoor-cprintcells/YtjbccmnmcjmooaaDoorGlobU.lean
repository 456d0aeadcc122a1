/- What the library's variables hold: the tables of the decoder of letters. -/
import Derived.Test.YtjbccmnmcjmooaaDoorBase
import Derived.Shelf.Unicode.DecodeSlow
namespace Go.Proofs.YtjbccmnmcjmooaaDoor
open Go.RowKit

def GlobU (w : World) : Prop := Lib.Utf8Tabs 0 1 w
theorem GlobU.on {w w' : World} (h : GlobU w) (hb : Below w.heap.size w w') : GlobU w' := Utf8Tabs_below h hb
end Go.Proofs.YtjbccmnmcjmooaaDoor
