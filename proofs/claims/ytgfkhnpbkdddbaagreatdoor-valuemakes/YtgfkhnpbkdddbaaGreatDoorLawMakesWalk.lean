/- ValueMakes, walked whole. -/
import Derived.Test.YtgfkhnpbkdddbaaGreatDoorVAwake
import Derived.Test.YtgfkhnpbkdddbaaGreatDoorLawMakesThree
namespace Go.Proofs.YtgfkhnpbkdddbaaGreatDoor
open Go.RowKit

theorem makes_walk (ks : List ByteArray) (kv : Value) (s : ByteArray) (hs : s.size ≤ maxLen) (n : Int) (hn : (Lit.int .i64 n).wf = true) (w : World) (hg : Glob w) (hks : InS w ks kv) :
    Calls Tryz.prog 3 #[.string s, kv, .int .i64 n] w fun e w' => e = .returned (.bool true) ∧ Below w.heap.size w w' := makes_of awake_any s ks kv n w hg hs hn hks
end Go.Proofs.YtgfkhnpbkdddbaaGreatDoor
