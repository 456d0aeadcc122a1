/- Package dec, walked: what the laws take. -/
import Derived.Test.YtnabdepplpaabaaDoorRefDecF
import Derived.Test.YtnabdepplpaabaaDoorRefDecG
import Derived.Test.YtnabdepplpaabaaDoorRefDecW
import Derived.Test.YtnabdepplpaabaaDoorDecG
namespace Go.Proofs.YtnabdepplpaabaaDoor
open Go.RowKit

theorem dgood_any (s : ByteArray) (w : World) (hs : s.size ≤ 1000000) :
    Calls Tryd.prog 12 #[.string s] w fun e w' => e = .returned (.bool (numB s.data.toList)) ∧ Below w.heap.size w w' := dgood_max s w (max_le hs)
theorem dwhole_any (s : ByteArray) (w : World) (hs : s.size ≤ 1000000) :
    Calls Tryd.prog 17 #[.string s] w fun e w' => e = .returned (.bool (wholeB s.data.toList)) ∧ Below w.heap.size w w' := dwhole_max s w (max_le hs)
theorem dcmp_any (a b : ByteArray) (w : World) (ha : a.size ≤ 1000000) (hb : b.size ≤ 1000000) :
    Calls Tryd.prog 13 #[.string a, .string b] w fun e w' => e = .returned (.int .i64 (cmpI a.data.toList b.data.toList)) ∧ Below w.heap.size w w' := dcmp_max a b w (max_le ha) (max_le hb)
theorem dint_any (s : ByteArray) (w : World) (hg : Glob w) (hs : s.size ≤ 1000000) :
    Calls Tryd.prog 10 #[.string s] w fun e w' => e = .returned (.tuple #[.int .i64 (intV s.data.toList), .bool (intB s.data.toList)]) ∧ Below w.heap.size w w' := dint_max s w hg (max_le hs)
theorem dcanon_any (s : ByteArray) (w : World) (hg : Glob w) (hs : s.size ≤ 1000000) :
    Calls Tryd.prog 11 #[.string s] w fun e w' => e = .returned (.tuple #[.string (mkS (canV s.data.toList)), .bool (numB s.data.toList)]) ∧ Below w.heap.size w w' := dcanon_max s w hg (max_le hs)
theorem dtext_any (n : Int) (w : World) (hg : Glob w) (h1 : -9223372036854775808 ≤ n) (h2 : n < 9223372036854775808) :
    Calls Tryd.prog 20 #[.int .i64 n] w fun e w' => e = .returned (.string (mkS (txt n))) ∧ Below w.heap.size w w' := dtext_max n w hg h1 h2
end Go.Proofs.YtnabdepplpaabaaDoor
