/- Texts that may be a string or a stamp. -/
import Derived.Test.YteimbjamnfkapaaGreatDoorLVBase
namespace Go.Proofs.YteimbjamnfkapaaGreatDoor
open Go.RowKit
def rvI (l : List UInt8) : Int := if pos l (vlk l) = l.length then -1 else (pos l (vlk l) : Int)
def strOkB (s : ByteArray) : Bool := decide (s.size ≤ 4096) && decide (rvI s.data.toList < 0)
def stampB (s : ByteArray) : Bool := decide (1 ≤ s.size) && decide (s.size ≤ 64) && s.data.toList.all (fun b => decide (32 ≤ b.toNat) && decide (b.toNat ≤ 126))
end Go.Proofs.YteimbjamnfkapaaGreatDoor
