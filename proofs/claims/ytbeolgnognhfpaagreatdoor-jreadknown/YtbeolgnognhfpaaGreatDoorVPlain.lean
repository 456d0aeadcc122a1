/- Trees that may be: the mathematics of it. -/
import Derived.Test.YtbeolgnognhfpaaGreatDoorVNode
import Derived.Test.YtbeolgnognhfpaaGreatDoorVBase
namespace Go.Proofs.YtbeolgnognhfpaaGreatDoor
open Go.RowKit

mutual
/-- a tree may be, whatever its size -/
def plainT : VT → Bool
  | .mk k n s L K V => nodeB (.mk k n s L K V) && plainL L && plainL V
def plainL : List VT → Bool
  | [] => true
  | t :: r => plainT t && plainL r
end
/-- a tree may be, with so many nodes ahead of it, so deep below the top -/
def mayB (c d : Int) (T : VT) : Bool := decide (c + szT T ≤ 4096 ∧ d + hgT T ≤ 33) && plainT T
end Go.Proofs.YtbeolgnognhfpaaGreatDoor
