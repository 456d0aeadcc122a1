/- ValueKnown, walked whole. -/
import Derived.Test.YtnpojefcibfgkaaGreatDoorVAwake
import Derived.Test.YtnpojefcibfgkaaGreatDoorLawKnownOf
namespace Go.Proofs.YtnpojefcibfgkaaGreatDoor
open Go.RowKit

theorem vknown_walk (w : World) (hg : Glob w) :
    Calls Tryz.prog 3 #[] w fun e w' => e = .returned (.bool true) ∧ Below w.heap.size w w' := known_of awake_any w hg
end Go.Proofs.YtnpojefcibfgkaaGreatDoor
