/- ValueGets, walked whole. -/
import Derived.Test.YtgfkhnpbkdddbaaGreatDoorVAwake
import Derived.Test.YtgfkhnpbkdddbaaGreatDoorLawGetsOf
namespace Go.Proofs.YtgfkhnpbkdddbaaGreatDoor
open Go.RowKit

theorem gets_walk (T : VT) (x y : Value) (key : ByteArray) (hkey : key.size ≤ maxLen) (w : World) (hg : Glob w) (hT : HV w T x y) :
    Calls Tryz.prog 5 #[vv T x y, .string key] w fun e w' => e = .returned (.bool true) ∧ Below w.heap.size w w' := gets_of awake_any T x y key w hg hT hkey
end Go.Proofs.YtgfkhnpbkdddbaaGreatDoor
