/- ValueLikes, walked whole. -/
import Derived.Test.YtnpojefcibfgkabGreatDoorVAwake
import Derived.Test.YtnpojefcibfgkabGreatDoorLawLikesOf
namespace Go.Proofs.YtnpojefcibfgkabGreatDoor
open Go.RowKit

theorem likes_walk (A B C : VT) (x y x' y' x'' y'' : Value) (w : World) (hg : Glob w) (hA : HV w A x y) (hB : HV w B x' y') (hC : HV w C x'' y'') :
    Calls Tryz.prog 3 #[vv A x y, vv B x' y', vv C x'' y''] w fun e w' => e = .returned (.bool true) ∧ Below w.heap.size w w' := likes_of awake_any A B C x y x' y' x'' y'' w hg hA hB hC
end Go.Proofs.YtnpojefcibfgkabGreatDoor
