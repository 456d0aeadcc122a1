/- value.goodNode, walked. -/
import Derived.Test.YtbeolgnognhfpaaGreatDoorVTextAll
import Derived.Test.YtbeolgnognhfpaaGreatDoorVSameT
namespace Go.Proofs.YtbeolgnognhfpaaGreatDoor
open Go.RowKit

/-- a node may be, whatever its parts are: a, b, c, d: no number, no text, no list, no map -/
def nodeC (k n : Int) (a b c d num te st ks : Bool) : Bool :=
  if k = 0 then a && b && c && d else if k = 1 then (a || n == 1) && b && c && d else if k = 2 then b && c && d else if k = 3 then a && num && c && d else if k = 4 then a && te && c && d
  else if k = 7 then a && st && c && d else if k = 5 then a && b && d else if k = 6 then a && b && c && ks else false
def nodeB (T : VT) : Bool := nodeC T.kd T.nm (T.nm == 0) T.st.toList.isEmpty ((T.ls.length : Int) == 0) ((T.vs.length : Int) == 0) (numB T.st.data.toList && !intB T.st.data.toList) (teI T.st == 0) (stampB T.st) (keysB T.ks)
end Go.Proofs.YtbeolgnognhfpaaGreatDoor
