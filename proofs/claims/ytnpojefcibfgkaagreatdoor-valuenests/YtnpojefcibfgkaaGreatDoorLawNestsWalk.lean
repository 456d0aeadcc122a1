/- ValueNests, walked whole. -/
import Derived.Test.YtnpojefcibfgkaaGreatDoorVAwake
import Derived.Test.YtnpojefcibfgkaaGreatDoorLawNestsOf
namespace Go.Proofs.YtnpojefcibfgkaaGreatDoor
open Go.RowKit

theorem nests_walk (deep wide : Int) (w0 : (Lit.int .i64 deep).wf = true) (w1 : (Lit.int .i64 wide).wf = true) (w : World) (hg : Glob w) :
    Calls Tryz.prog 8 #[.int .i64 deep, .int .i64 wide] w fun e w' => e = .returned (.bool true) ∧ Below w.heap.size w w' := nests_of awake_any deep wide w0 w1 w hg
end Go.Proofs.YtnpojefcibfgkaaGreatDoor
